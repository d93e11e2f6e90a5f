/- A snapshot as an argument, with its sizes.
Messages and a snapshot as arguments.
The document's records: Read.
The document's records: Same; the statement's own.
Snap's laws: awake.
Snapshots there and back: mathematics.
The law's large, items, own.
States for drawn regions: operations that give slots that live until another operation runs, in any order that the region allows; the last one turns the world.
States for drawn regions: as Mx, and what the last operation leaves is told of slots, too.
The law's own: a snapshot as one of the document's.
The document's Same on snapshots that are the same.
The law's large; the document's Large. -/
import Derived.Test.YtpbmbjdiilnaeaaDoorSnpD
import Derived.Test.YtpbmbjdiilnaeaaDoorOpenV
import Derived.Test.YtpbmbjdiilnaeaaDoorRecE
import Derived.Test.YtpbmbjdiilnaeaaDoorRecC
import Derived.Test.YtpbmbjdiilnaeaaDoorRecL
import Derived.Test.YtpbmbjdiilnaeaaDoorSnpMA
import Derived.Test.YtpbmbjdiilnaeaaDoorRgC
import Derived.Laws.Rows
import Derived.Laws.Tables
import Derived.Deep.QuietTactic
import Derived.BigQuiet
import Derived.SizedLaws
set_option linter.unusedSimpArgs false
set_option linter.unusedVariables false
set_option maxRecDepth 100000
namespace Go.Proofs.YtpbmbjdiilnaeaaDoor
open Go Go.RowKit Go.Tum Go.ChangeMaps Go.Sort Go.Tum.Vint Go.Tum.Crc Go.WideShapes Go.ChangeShapes Go.Deep

theorem sl_shape {w : World} {sz n : Nat} {v : Value} {l : List Value} (h : Sl w sz v n l) : ∃ o c, v = .slice o n c := by
 obtain ⟨-, o, c, e, -⟩ := h
 exact ⟨o, c, e⟩
def tabZ : List Int := [0, 0, 5, 2, 1, 2, 2, 1, 1, 1, 1, 1, 5, 7, 10, 2, 1, 1]
theorem tabZ_at : ∀ i : Fin 18, tabZ.getD i.val 0 = ((manyT.getD i.val 0 : Nat) : Int) := by decide
theorem cellsIx : Tryd.prog.cellsOf 3 = 1 := by kernel_rfl
theorem cellsUx : Tryd.prog.cellsOf 22 = 1 := by kernel_rfl
theorem cellsSx : Tryd.prog.cellsOf 9 = 1 := by kernel_rfl
theorem cellsWh : Tryd.prog.cellsOf 67 = 3 := by kernel_rfl
theorem nmI_of (s : ByteArray) : s = str s.data.toList := by
 apply ByteArray.ext
 simp [str]
theorem nmI_len {s : ByteArray} (h : s.size ≤ maxLen) : s.data.toList.length ≤ maxLen := by
 have : s.data.toList.length = s.size := Array.length_toList
 rw [this]; exact h
theorem cellsItS : Tryd.prog.cellsOf 69 = 10 := by kernel_rfl
theorem cellsLfS : Tryd.prog.cellsOf 65 = 4 := by kernel_rfl
theorem cellsRwS : Tryd.prog.cellsOf 75 = 2 := by kernel_rfl
theorem cellsCrS : Tryd.prog.cellsOf 77 = 2 := by kernel_rfl
theorem cellsStS : Tryd.prog.cellsOf 27 = 8 := by kernel_rfl
theorem cellsSlI : Tryd.prog.cellsOf 23 = 1 := by kernel_rfl
theorem cellsSlR : Tryd.prog.cellsOf 24 = 1 := by kernel_rfl
theorem cellsSlC : Tryd.prog.cellsOf 25 = 1 := by kernel_rfl
theorem list10 {α : Type} {l : List α} (h : l.length = 10) : ∃ a b c d e f g i j k, l = [a, b, c, d, e, f, g, i, j, k] := by
 match l, h with
 | [a, b, c, d, e, f, g, i, j, k], _ => exact ⟨a, b, c, d, e, f, g, i, j, k, rfl⟩
theorem list2 {α : Type} {l : List α} (h : l.length = 2) : ∃ a b, l = [a, b] := by
 match l, h with
 | [a, b], _ => exact ⟨a, b, rfl⟩
section
variable {H : Type} {enc : TypeId × Value → H} {w : World} {base : Nat} {held : Bool}
theorem open_where {fuel : Nat} {c0 c1 c2 : Value} {x : DataW H × List MemPlace} (hf : DataW.trod enc Tryd.prog w base (fun _ => true) held fuel 67 [c0, c1, c2] = some x) :
 ∃ (sg ps : UInt64) (sz : Int), [c0, c1, c2] = [uv sg, uv ps, .int .i64 sz] := by
 obtain ⟨y0, y1, y2, n, -, -, h0, h1, h2⟩ := trod_struct3 Tryd.underlying67 hf
 simp only [cellsUx, cellsIx, List.drop_zero, List.drop_succ_cons, List.take_succ_cons, List.take_zero] at h0 h1 h2
 obtain ⟨a0, e0, -, w0⟩ := DataW.trod_int Tryd.underlying22 h0
 obtain ⟨a1, e1, -, w1⟩ := DataW.trod_int Tryd.underlying22 h1
 obtain ⟨a2, e2, -, w2⟩ := DataW.trod_int Tryd.underlying3 h2
 obtain ⟨u, rfl⟩ := u64_of w0
 obtain ⟨u', rfl⟩ := u64_of w1
 simp only [List.cons.injEq, and_true] at e0 e1 e2
 subst e0 e1 e2
 exact ⟨u, u', a2, rfl⟩
theorem open_lifeS {fuel : Nat} {c0 c1 c2 c3 : Value} {x : DataW H × List MemPlace} (hf : DataW.trod enc Tryd.prog w base (fun _ => true) held fuel 65 [c0, c1, c2, c3] = some x) :
 ∃ (st ct : Int) (du tk : UInt64), [c0, c1, c2, c3] = [.int .i64 st, .int .i64 ct, uv du, uv tk] := by
 obtain ⟨ys, n', -, -, -, hyl, hfj⟩ := DataW.trod_struct Tryd.underlying65 hf
 have t0 : DataW.trod enc Tryd.prog w base (fun _ => true) held n' 3 (([c0, c1, c2, c3].drop 0).take (Tryd.prog.cellsOf 3)) = ys[0]? := hfj 0 _ rfl
 have t1 : DataW.trod enc Tryd.prog w base (fun _ => true) held n' 3 (([c0, c1, c2, c3].drop 1).take (Tryd.prog.cellsOf 3)) = ys[1]? := hfj 1 _ rfl
 have t2 : DataW.trod enc Tryd.prog w base (fun _ => true) held n' 22 (([c0, c1, c2, c3].drop 2).take (Tryd.prog.cellsOf 22)) = ys[2]? := hfj 2 _ rfl
 have t3 : DataW.trod enc Tryd.prog w base (fun _ => true) held n' 22 (([c0, c1, c2, c3].drop 3).take (Tryd.prog.cellsOf 22)) = ys[3]? := hfj 3 _ rfl
 have hyl : ys.length = 4 := hyl
 rw [cellsIx] at t0 t1
 rw [cellsUx] at t2 t3
 have g0 : DataW.trod enc Tryd.prog w base (fun _ => true) held n' 3 [c0] = _ := t0.trans (List.getElem?_eq_getElem (show 0 < ys.length by omega))
 have g1 : DataW.trod enc Tryd.prog w base (fun _ => true) held n' 3 [c1] = _ := t1.trans (List.getElem?_eq_getElem (show 1 < ys.length by omega))
 have g2 : DataW.trod enc Tryd.prog w base (fun _ => true) held n' 22 [c2] = _ := t2.trans (List.getElem?_eq_getElem (show 2 < ys.length by omega))
 have g3 : DataW.trod enc Tryd.prog w base (fun _ => true) held n' 22 [c3] = _ := t3.trans (List.getElem?_eq_getElem (show 3 < ys.length by omega))
 obtain ⟨z0, e0, -, w0⟩ := DataW.trod_int Tryd.underlying3 g0
 obtain ⟨z1, e1, -, w1⟩ := DataW.trod_int Tryd.underlying3 g1
 obtain ⟨z2, e2, -, w2⟩ := DataW.trod_int Tryd.underlying22 g2
 obtain ⟨z3, e3, -, w3⟩ := DataW.trod_int Tryd.underlying22 g3
 obtain ⟨u2, rfl⟩ := u64_of w2
 obtain ⟨u3, rfl⟩ := u64_of w3
 simp only [List.cons.injEq, and_true] at e0 e1 e2 e3
 subst e0 e1 e2 e3
 exact ⟨z0, z1, u2, u3, rfl⟩
theorem cellsSnp : Tryd.prog.cellsOf 29 = 10 := by kernel_rfl
end
end Go.Proofs.YtpbmbjdiilnaeaaDoor

namespace Go.Proofs.YtpbmbjdiilnaeaaDoor
open Go.RowKit Go.Tum Go.Tum.Crc Go.Tum.Vint

theorem blk2f {w : World} {b : Nat} {p q : Value} {ty : TypeId} (h : w.heap[b]? = some (.cells #[p, q] ty (0, 0))) :
 w.cell? ⟨b, 0, none⟩ = some p ∧ w.cell? ⟨b, 1, none⟩ = some q := ⟨(blk2 h).1, (blk2 h).2.1⟩
theorem rmany_no {k : Int} (h : knownB k = false) : rmany k = -1 := by unfold rmany; rw [h]; rfl
theorem rmany_yes {k : Int} {m : Nat} (h : knownB k = true) (hm : many k = m) : rmany k = (m : Int) := by unfold rmany; rw [h, hm]; rfl

end Go.Proofs.YtpbmbjdiilnaeaaDoor

namespace Go.Proofs.YtpbmbjdiilnaeaaDoor
open Go.RowKit Go.Tum Go.Tum.Crc Go.Tum.Vint

def recsSame (l m : List Rc) : Bool := decide (l = m)
theorem recsame_ne {l m : List Rc} (h : l ≠ m) : recsSame l m = false := by simp [recsSame, h]
theorem recsame_eq {l m : List Rc} (h : l = m) : recsSame l m = true := by simp [recsSame, h]
set_option maxRecDepth 100000 in
set_option maxHeartbeats 1000000 in
theorem rsames5_any (u v : Value) (l m : List Rc) (w : World) (hb : Rcs w u l) (hc : Rcs w v m) (hl : l.length ≤ 1048576) (hm : m.length ≤ 1048576) :
 Calls Tryd.prog 15 #[u, v] w fun e w' => e = .returned (.bool (recsSame l m)) ∧ Ext w w' := by
 obtain ⟨p, rfl, hr, hB⟩ := hb
 obtain ⟨q, rfl, hr2, hB2⟩ := hc
 simp only [List.length_map] at hl hm
 obtain ⟨ao, cap, rfl, hc1, hc2, hc3, hcell⟩ := hr.open
 obtain ⟨bo, cbp, rfl, hd1, hd2, hd3, hcell2⟩ := hr2.open
 have HC := hid hcell
 have HD := hid hcell2
 have HB := hid hB
 have HB2 := hid hB2
 have H3 := hid hc3
 have H4 := hid hd3
 clear hcell hcell2 hB hB2 hr hr2 hc3 hd3
 by_cases hlen : p.length = q.length
 · have hne : ((p.length : Int) != (q.length : Int)) = false := by simp [hlen]
   have HLEN := hid hlen
   clear hlen
   go_enter Tryd.func15, Tryd.ntmps15
   go_wp2
   clear hne
   go_loopw [5] (fun i wr => ∃ k : Nat, k ≤ p.length ∧ i = .int .i64 k ∧ Hid ((p.map (·.1)).take k = (q.map (·.1)).take k) ∧ Hid (Ext w wr)) (fun i _ => p.length - (intOf i).toNat)
   case atStart => exact ⟨0, by omega, rfl, hid (by simp), Ext.refl _⟩
   case round =>
    obtain ⟨k, hk, rfl, HT, HE⟩ := hrel
    by_cases hlt : k < p.length
    · have hlt2 : k < q.length := by rw [← HLEN.out]; exact hlt
      obtain ⟨a, rfl⟩ := H3.out (by omega)
      obtain ⟨b, rfl⟩ := H4.out (by omega)
      have C0 := hid (cell_first (HE.out.cell (HC.out a rfl k hlt 0 _ rfl)))
      have C1 := hid (cell_next (HE.out.cell (HC.out a rfl k hlt 1 _ rfl)) (by decide))
      have C2 := hid (cell_next (HE.out.cell (HC.out a rfl k hlt 2 _ rfl)) (by decide))
      have D0 := hid (cell_first (HE.out.cell (HD.out b rfl k hlt2 0 _ rfl)))
      have D1 := hid (cell_next (HE.out.cell (HD.out b rfl k hlt2 1 _ rfl)) (by decide))
      have D2 := hid (cell_next (HE.out.cell (HD.out b rfl k hlt2 2 _ rfl)) (by decide))
      have B1 := hid ((HB.out p[k] (List.getElem_mem hlt)).ext HE.out)
      have B2 := hid ((HB2.out q[k] (List.getElem_mem hlt2)).ext HE.out)
      have hI : (k : Int) < p.length := by omega
      have hI2 : (k : Int) < q.length := by omega
      have hI0 : (0 : Int) ≤ k := by omega
      obtain ⟨P, hP⟩ : ∃ P, p[k].1.kind = P := ⟨_, rfl⟩
      obtain ⟨Q, hQ⟩ : ∃ Q, q[k].1.kind = Q := ⟨_, rfl⟩
      obtain ⟨S1, hS1⟩ : ∃ S1, p[k].1.text = S1 := ⟨_, rfl⟩
      obtain ⟨S2, hS2⟩ : ∃ S2, q[k].1.text = S2 := ⟨_, rfl⟩
      obtain ⟨X, hX0⟩ : ∃ X, p[k].1.n = X := ⟨_, rfl⟩
      obtain ⟨Y, hY0⟩ : ∃ Y, q[k].1.n = Y := ⟨_, rfl⟩
      obtain ⟨U, hU0⟩ : ∃ U, p[k].2 = U := ⟨_, rfl⟩
      obtain ⟨V, hV0⟩ : ∃ V, q[k].2 = V := ⟨_, rfl⟩
      rw [hP] at C0
      rw [hS1] at C2
      rw [hU0] at C1
      rw [hQ] at D0
      rw [hS2] at D2
      rw [hV0] at D1
      rw [hX0, hU0] at B1
      rw [hY0, hV0] at B2
      have hone : ∃ x n y, U = .slice x n y := by
       obtain ⟨x, y, h, -⟩ := B1.out.open
       exact ⟨x, _, y, h⟩
      have hone2 : ∃ x n y, V = .slice x n y := by
       obtain ⟨x, y, h, -⟩ := B2.out.open
       exact ⟨x, _, y, h⟩
      have HPQ := hid (And.intro hP hQ)
      have HSS := hid (And.intro hS1 hS2)
      have HXY := hid (And.intro hX0 hY0)
      clear hX0 hY0 hU0 hV0 hP hQ hS1 hS2
      by_cases hkk : P = Q
      · have hkn : (P != Q) = false := by simp [hkk]
        by_cases hss : S1 = S2
        · obtain ⟨BB, hBB⟩ : ∃ BB, (X == Y) = BB := ⟨_, rfl⟩
          have HSTEP := hid (show (X = Y) ↔ p[k].1 = q[k].1 by
           have h1 := HPQ.out; have h2 := HSS.out; have h3 := HXY.out
           rw [← h3.1, ← h3.2]
           constructor
           · intro h
             cases hp : p[k].1; cases hq : q[k].1
             rw [hp, hq] at h1 h2 h3 h
             simp only at h1 h2 h3 h
             rw [Rc.mk.injEq]
             exact ⟨by rw [h1.1, h1.2, hkk], h, by rw [h2.1, h2.2, hss]⟩
           · intro h; rw [h])
          have HBB := hid hBB
          subst hss
          clear hkk hBB
          go_wp2_with fail
          refine Par.wp_region_par (l := [_, _, _, _, _, _, _, _, _, _, _, _, _, _, _, _, _, _, _, _, _, _, _, _, _, _, _, _, _, _, _, _, _, _, _, _, _, _]) rfl Ext (Par.VL [Par.EQ (Value.slice (some a) p.length cap), Par.EQ (Value.int IntKind.i64 (k : Int)), Par.EQ (Value.pointer (some (a.add (k * 3)))), Par.EQ (Value.pointer (some (a.add (k * 3)))), Par.EQ (Value.int IntKind.i64 P), Par.EQ (Value.slice (some b) q.length cbp), Par.EQ (Value.int IntKind.i64 (k : Int)), Par.EQ (Value.pointer (some (b.add (k * 3)))), Par.EQ (Value.pointer (some (b.add (k * 3)))), Par.EQ (Value.int IntKind.i64 Q), Par.EQ (Value.bool false), Par.EQ (Value.bool false), Par.EQ (Value.slice (some a) p.length cap), Par.EQ (Value.int IntKind.i64 (k : Int)), Par.EQ (Value.pointer (some (a.add (k * 3)))), Par.EQ (Value.pointer (some ⟨(a.add (k * 3)).block, (a.add (k * 3)).off + 2, none⟩)), Par.EQ (Value.string (str S1)), Par.EQ (Value.slice (some b) q.length cbp), Par.EQ (Value.int IntKind.i64 (k : Int)), Par.EQ (Value.pointer (some (b.add (k * 3)))), Par.EQ (Value.pointer (some ⟨(b.add (k * 3)).block, (b.add (k * 3)).off + 2, none⟩)), Par.EQ (Value.string (str S1)), Par.EQ (Value.bool false), Par.EQ (Value.bool false), Par.EQ (Value.bool false), Par.EQ (Value.slice (some a) p.length cap), Par.EQ (Value.int IntKind.i64 (k : Int)), Par.EQ (Value.pointer (some (a.add (k * 3)))), Par.EQ (Value.pointer (some ⟨(a.add (k * 3)).block, (a.add (k * 3)).off + 1, none⟩)), Par.EQ (U), Par.EQ (Value.slice (some b) q.length cbp), Par.EQ (Value.int IntKind.i64 (k : Int)), Par.EQ (Value.pointer (some (b.add (k * 3)))), Par.EQ (Value.pointer (some ⟨(b.add (k * 3)).block, (b.add (k * 3)).off + 1, none⟩)), Par.EQ (V), Par.EQ (Value.bool BB), Par.EQ (Value.bool (!BB)), Par.EQ (Value.bool (!BB))]) (by kernel_rfl) Ext.refl (fun _ _ _ h1 h2 => Ext.trans h1 h2) (Ext.draw _) (Par.VL_stab ?_) ?_ ?_
          · simp only [List.forall_mem_cons, List.not_mem_nil, false_implies, implies_true, and_true]
            refine ⟨fun _ _ _ _ h => h, fun _ _ _ _ h => h, fun _ _ _ _ h => h, fun _ _ _ _ h => h, fun _ _ _ _ h => h, fun _ _ _ _ h => h, fun _ _ _ _ h => h, fun _ _ _ _ h => h, fun _ _ _ _ h => h, fun _ _ _ _ h => h, fun _ _ _ _ h => h, fun _ _ _ _ h => h, fun _ _ _ _ h => h, fun _ _ _ _ h => h, fun _ _ _ _ h => h, fun _ _ _ _ h => h, fun _ _ _ _ h => h, fun _ _ _ _ h => h, fun _ _ _ _ h => h, fun _ _ _ _ h => h, fun _ _ _ _ h => h, fun _ _ _ _ h => h, fun _ _ _ _ h => h, fun _ _ _ _ h => h, fun _ _ _ _ h => h, fun _ _ _ _ h => h, fun _ _ _ _ h => h, fun _ _ _ _ h => h, fun _ _ _ _ h => h, fun _ _ _ _ h => h, fun _ _ _ _ h => h, fun _ _ _ _ h => h, fun _ _ _ _ h => h, fun _ _ _ _ h => h, fun _ _ _ _ h => h, fun _ _ _ _ h => h, fun _ _ _ _ h => h, fun _ _ _ _ h => h⟩
          · refine ⟨⟨fun _ _ => trivial, fun ρ w' hX hG hk => ?_⟩, ?_⟩
            · exact Par.val_of_run rfl ⟨Ext.refl _, hk.1⟩
            refine ⟨⟨fun _ _ => trivial, fun ρ w' hX hG hk => ?_⟩, ?_⟩
            · exact Par.val_of_run rfl ⟨Ext.refl _, hk.1⟩
            refine ⟨⟨fun _ _ => trivial, fun ρ w' hX hG hk => ?_⟩, ?_⟩
            · obtain ⟨(e0 : ρ (.tmp 17) = Value.slice (some a) p.length cap), (e1 : ρ (.tmp 18) = Value.int IntKind.i64 (k : Int)), -⟩ := hk; refine Par.val_k fun K hK => ?_; unfold Par.val
              (go_simp; exact hK _ _ ⟨Ext.refl _, rfl⟩)
            refine ⟨⟨fun _ _ => trivial, fun ρ w' hX hG hk => ?_⟩, ?_⟩
            · obtain ⟨(e0 : ρ (.tmp 19) = Value.pointer (some (a.add (k * 3)))), -⟩ := hk; refine Par.val_k fun K hK => ?_; unfold Par.val
              (go_simp; exact hK _ _ ⟨Ext.refl _, rfl⟩)
            refine ⟨⟨fun _ _ => trivial, fun ρ w' hX hG hk => ?_⟩, ?_⟩
            · obtain ⟨(e0 : ρ (.tmp 20) = Value.pointer (some (a.add (k * 3)))), -⟩ := hk; refine Par.val_k fun K hK => ?_; unfold Par.val
              (have c := hX.cell C0.out; go_simp; exact hK _ _ ⟨Ext.refl _, rfl⟩)
            refine ⟨⟨fun _ _ => trivial, fun ρ w' hX hG hk => ?_⟩, ?_⟩
            · exact Par.val_of_run rfl ⟨Ext.refl _, hk.1⟩
            refine ⟨⟨fun _ _ => trivial, fun ρ w' hX hG hk => ?_⟩, ?_⟩
            · exact Par.val_of_run rfl ⟨Ext.refl _, hk.1⟩
            refine ⟨⟨fun _ _ => trivial, fun ρ w' hX hG hk => ?_⟩, ?_⟩
            · obtain ⟨(e0 : ρ (.tmp 22) = Value.slice (some b) q.length cbp), (e1 : ρ (.tmp 23) = Value.int IntKind.i64 (k : Int)), -⟩ := hk; refine Par.val_k fun K hK => ?_; unfold Par.val
              (go_simp; exact hK _ _ ⟨Ext.refl _, rfl⟩)
            refine ⟨⟨fun _ _ => trivial, fun ρ w' hX hG hk => ?_⟩, ?_⟩
            · obtain ⟨(e0 : ρ (.tmp 24) = Value.pointer (some (b.add (k * 3)))), -⟩ := hk; refine Par.val_k fun K hK => ?_; unfold Par.val
              (go_simp; exact hK _ _ ⟨Ext.refl _, rfl⟩)
            refine ⟨⟨fun _ _ => trivial, fun ρ w' hX hG hk => ?_⟩, ?_⟩
            · obtain ⟨(e0 : ρ (.tmp 25) = Value.pointer (some (b.add (k * 3)))), -⟩ := hk; refine Par.val_k fun K hK => ?_; unfold Par.val
              (have c := hX.cell D0.out; go_simp; exact hK _ _ ⟨Ext.refl _, rfl⟩)
            refine ⟨⟨fun _ _ => trivial, fun ρ w' hX hG hk => ?_⟩, ?_⟩
            · obtain ⟨(e0 : ρ (.tmp 21) = Value.int IntKind.i64 P), (e1 : ρ (.tmp 26) = Value.int IntKind.i64 Q), -⟩ := hk; refine Par.val_k fun K hK => ?_; unfold Par.val
              (go_simp; exact hK _ _ ⟨Ext.refl _, rfl⟩)
            refine ⟨⟨fun _ _ => trivial, fun ρ w' hX hG hk => ?_⟩, ?_⟩
            · obtain ⟨(e0 : ρ (.tmp 27) = Value.bool false), -⟩ := hk; refine Par.val_k fun K hK => ?_; unfold Par.val
              (go_simp; exact hK _ _ ⟨Ext.refl _, rfl⟩)
            refine ⟨⟨fun _ _ u hu => .inl hu, fun ρ w' hX hG hk => ?_⟩, ?_⟩
            · exact Par.val_of_run rfl ⟨Ext.refl _, hk.1⟩
            refine ⟨⟨fun _ _ u hu => .inl hu, fun ρ w' hX hG hk => ?_⟩, ?_⟩
            · exact Par.val_of_run rfl ⟨Ext.refl _, hk.1⟩
            refine ⟨⟨fun _ _ u hu => .inl hu, fun ρ w' hX hG hk => ?_⟩, ?_⟩
            · obtain ⟨(e0 : ρ (.tmp 29) = Value.slice (some a) p.length cap), (e1 : ρ (.tmp 30) = Value.int IntKind.i64 (k : Int)), -⟩ := hk; refine Par.val_k fun K hK => ?_; unfold Par.val
              (go_simp; exact hK _ _ ⟨Ext.refl _, rfl⟩)
            refine ⟨⟨fun _ _ u hu => .inl hu, fun ρ w' hX hG hk => ?_⟩, ?_⟩
            · obtain ⟨(e0 : ρ (.tmp 31) = Value.pointer (some (a.add (k * 3)))), -⟩ := hk; refine Par.val_k fun K hK => ?_; unfold Par.val
              (go_simp; exact hK _ _ ⟨Ext.refl _, rfl⟩)
            refine ⟨⟨fun _ _ u hu => .inl hu, fun ρ w' hX hG hk => ?_⟩, ?_⟩
            · obtain ⟨(e0 : ρ (.tmp 32) = Value.pointer (some ⟨(a.add (k * 3)).block, (a.add (k * 3)).off + 2, none⟩)), -⟩ := hk; refine Par.val_k fun K hK => ?_; unfold Par.val
              (have c := hX.cell C2.out; go_simp; exact hK _ _ ⟨Ext.refl _, rfl⟩)
            refine ⟨⟨fun _ _ u hu => .inl hu, fun ρ w' hX hG hk => ?_⟩, ?_⟩
            · exact Par.val_of_run rfl ⟨Ext.refl _, hk.1⟩
            refine ⟨⟨fun _ _ u hu => .inl hu, fun ρ w' hX hG hk => ?_⟩, ?_⟩
            · exact Par.val_of_run rfl ⟨Ext.refl _, hk.1⟩
            refine ⟨⟨fun _ _ u hu => .inl hu, fun ρ w' hX hG hk => ?_⟩, ?_⟩
            · obtain ⟨(e0 : ρ (.tmp 34) = Value.slice (some b) q.length cbp), (e1 : ρ (.tmp 35) = Value.int IntKind.i64 (k : Int)), -⟩ := hk; refine Par.val_k fun K hK => ?_; unfold Par.val
              (go_simp; exact hK _ _ ⟨Ext.refl _, rfl⟩)
            refine ⟨⟨fun _ _ u hu => .inl hu, fun ρ w' hX hG hk => ?_⟩, ?_⟩
            · obtain ⟨(e0 : ρ (.tmp 36) = Value.pointer (some (b.add (k * 3)))), -⟩ := hk; refine Par.val_k fun K hK => ?_; unfold Par.val
              (go_simp; exact hK _ _ ⟨Ext.refl _, rfl⟩)
            refine ⟨⟨fun _ _ u hu => .inl hu, fun ρ w' hX hG hk => ?_⟩, ?_⟩
            · obtain ⟨(e0 : ρ (.tmp 37) = Value.pointer (some ⟨(b.add (k * 3)).block, (b.add (k * 3)).off + 2, none⟩)), -⟩ := hk; refine Par.val_k fun K hK => ?_; unfold Par.val
              (have c := hX.cell D2.out; go_simp; exact hK _ _ ⟨Ext.refl _, rfl⟩)
            refine ⟨⟨fun _ _ u hu => .inl hu, fun ρ w' hX hG hk => ?_⟩, ?_⟩
            · obtain ⟨(e0 : ρ (.tmp 33) = Value.string (str S1)), (e1 : ρ (.tmp 38) = Value.string (str S1)), -⟩ := hk; refine Par.val_k fun K hK => ?_; unfold Par.val
              (go_simp; exact hK _ _ ⟨Ext.refl _, rfl⟩)
            refine ⟨⟨fun _ _ => trivial, fun ρ w' hX hG hk => ?_⟩, ?_⟩
            · obtain ⟨(e0 : ρ (.tmp 28) = Value.bool false), (e1 : ρ (Operand.const (Value.bool true)) = (Value.bool true)), (e2 : ρ (.tmp 39) = Value.bool false), -⟩ := hk; refine Par.val_k fun K hK => ?_; unfold Par.val
              (go_simp; exact hK _ _ ⟨Ext.refl _, rfl⟩)
            refine ⟨⟨fun _ _ => trivial, fun ρ w' hX hG hk => ?_⟩, ?_⟩
            · obtain ⟨(e0 : ρ (.tmp 40) = Value.bool false), -⟩ := hk; refine Par.val_k fun K hK => ?_; unfold Par.val
              (go_simp; exact hK _ _ ⟨Ext.refl _, rfl⟩)
            refine ⟨⟨fun _ _ u hu => .inl hu, fun ρ w' hX hG hk => ?_⟩, ?_⟩
            · exact Par.val_of_run rfl ⟨Ext.refl _, hk.1⟩
            refine ⟨⟨fun _ _ u hu => .inl hu, fun ρ w' hX hG hk => ?_⟩, ?_⟩
            · exact Par.val_of_run rfl ⟨Ext.refl _, hk.1⟩
            refine ⟨⟨fun _ _ u hu => .inl hu, fun ρ w' hX hG hk => ?_⟩, ?_⟩
            · obtain ⟨(e0 : ρ (.tmp 42) = Value.slice (some a) p.length cap), (e1 : ρ (.tmp 43) = Value.int IntKind.i64 (k : Int)), -⟩ := hk; refine Par.val_k fun K hK => ?_; unfold Par.val
              (go_simp; exact hK _ _ ⟨Ext.refl _, rfl⟩)
            refine ⟨⟨fun _ _ u hu => .inl hu, fun ρ w' hX hG hk => ?_⟩, ?_⟩
            · obtain ⟨(e0 : ρ (.tmp 44) = Value.pointer (some (a.add (k * 3)))), -⟩ := hk; refine Par.val_k fun K hK => ?_; unfold Par.val
              (go_simp; exact hK _ _ ⟨Ext.refl _, rfl⟩)
            refine ⟨⟨fun _ _ u hu => .inl hu, fun ρ w' hX hG hk => ?_⟩, ?_⟩
            · obtain ⟨(e0 : ρ (.tmp 45) = Value.pointer (some ⟨(a.add (k * 3)).block, (a.add (k * 3)).off + 1, none⟩)), -⟩ := hk; refine Par.val_k fun K hK => ?_; unfold Par.val
              (have c := hX.cell C1.out; go_simp; exact hK _ _ ⟨Ext.refl _, rfl⟩)
            refine ⟨⟨fun _ _ u hu => .inl hu, fun ρ w' hX hG hk => ?_⟩, ?_⟩
            · exact Par.val_of_run rfl ⟨Ext.refl _, hk.1⟩
            refine ⟨⟨fun _ _ u hu => .inl hu, fun ρ w' hX hG hk => ?_⟩, ?_⟩
            · exact Par.val_of_run rfl ⟨Ext.refl _, hk.1⟩
            refine ⟨⟨fun _ _ u hu => .inl hu, fun ρ w' hX hG hk => ?_⟩, ?_⟩
            · obtain ⟨(e0 : ρ (.tmp 47) = Value.slice (some b) q.length cbp), (e1 : ρ (.tmp 48) = Value.int IntKind.i64 (k : Int)), -⟩ := hk; refine Par.val_k fun K hK => ?_; unfold Par.val
              (go_simp; exact hK _ _ ⟨Ext.refl _, rfl⟩)
            refine ⟨⟨fun _ _ u hu => .inl hu, fun ρ w' hX hG hk => ?_⟩, ?_⟩
            · obtain ⟨(e0 : ρ (.tmp 49) = Value.pointer (some (b.add (k * 3)))), -⟩ := hk; refine Par.val_k fun K hK => ?_; unfold Par.val
              (go_simp; exact hK _ _ ⟨Ext.refl _, rfl⟩)
            refine ⟨⟨fun _ _ u hu => .inl hu, fun ρ w' hX hG hk => ?_⟩, ?_⟩
            · obtain ⟨(e0 : ρ (.tmp 50) = Value.pointer (some ⟨(b.add (k * 3)).block, (b.add (k * 3)).off + 1, none⟩)), -⟩ := hk; refine Par.val_k fun K hK => ?_; unfold Par.val
              (have c := hX.cell D1.out; go_simp; exact hK _ _ ⟨Ext.refl _, rfl⟩)
            refine ⟨⟨fun _ _ u hu => .inl hu, fun ρ w' hX hG hk => ?_⟩, ?_⟩
            · obtain ⟨e0, (e1 : ρ (.tmp 46) = U), (e2 : ρ (.tmp 51) = V), -⟩ := hk; refine Par.val_k fun K hK => ?_; unfold Par.val
              refine Par.val_call Tryd.func17 (by kernel_rfl) rfl e0 ?_
              simp only [List.map_toArray, List.map_cons, List.map_nil, e1, e2]
              refine (rsame64_any _ _ X Y _ (B1.out.ext hX) (B2.out.ext hX)).mono ?_
              rintro e w2 ⟨rfl, h2⟩
              exact ⟨_, rfl, hK _ _ ⟨h2, (congrArg Value.bool HBB.out)⟩⟩
            refine ⟨⟨fun _ _ u hu => .inl hu, fun ρ w' hX hG hk => ?_⟩, ?_⟩
            · obtain ⟨(e0 : ρ (.tmp 52) = Value.bool BB), -⟩ := hk; refine Par.val_k fun K hK => ?_; unfold Par.val
              (go_simp; exact hK _ _ ⟨Ext.refl _, rfl⟩)
            refine ⟨⟨fun _ _ => trivial, fun ρ w' hX hG hk => ?_⟩, ?_⟩
            · obtain ⟨(e0 : ρ (.tmp 41) = Value.bool false), (e1 : ρ (Operand.const (Value.bool true)) = (Value.bool true)), (e2 : ρ (.tmp 53) = Value.bool (!BB)), -⟩ := hk; refine Par.val_k fun K hK => ?_; unfold Par.val
              (go_simp; exact hK _ _ ⟨Ext.refl _, rfl⟩)
            trivial
          intro a' w' inv
          have hX := inv.ext
          have q17 : a'.tmps.getD 17 undef = Value.slice (some a) p.length cap := inv.done 0 _ 17 rfl rfl rfl
          have q18 : a'.tmps.getD 18 undef = Value.int IntKind.i64 (k : Int) := inv.done 1 _ 18 rfl rfl rfl
          have q19 : a'.tmps.getD 19 undef = Value.pointer (some (a.add (k * 3))) := inv.done 2 _ 19 rfl rfl rfl
          have q20 : a'.tmps.getD 20 undef = Value.pointer (some (a.add (k * 3))) := inv.done 3 _ 20 rfl rfl rfl
          have q21 : a'.tmps.getD 21 undef = Value.int IntKind.i64 P := inv.done 4 _ 21 rfl rfl rfl
          have q22 : a'.tmps.getD 22 undef = Value.slice (some b) q.length cbp := inv.done 5 _ 22 rfl rfl rfl
          have q23 : a'.tmps.getD 23 undef = Value.int IntKind.i64 (k : Int) := inv.done 6 _ 23 rfl rfl rfl
          have q24 : a'.tmps.getD 24 undef = Value.pointer (some (b.add (k * 3))) := inv.done 7 _ 24 rfl rfl rfl
          have q25 : a'.tmps.getD 25 undef = Value.pointer (some (b.add (k * 3))) := inv.done 8 _ 25 rfl rfl rfl
          have q26 : a'.tmps.getD 26 undef = Value.int IntKind.i64 Q := inv.done 9 _ 26 rfl rfl rfl
          have q27 : a'.tmps.getD 27 undef = Value.bool false := inv.done 10 _ 27 rfl rfl rfl
          have q28 : a'.tmps.getD 28 undef = Value.bool false := inv.done 11 _ 28 rfl rfl rfl
          have q29 : a'.tmps.getD 29 undef = Value.slice (some a) p.length cap := inv.done 12 _ 29 rfl rfl rfl
          have q30 : a'.tmps.getD 30 undef = Value.int IntKind.i64 (k : Int) := inv.done 13 _ 30 rfl rfl rfl
          have q31 : a'.tmps.getD 31 undef = Value.pointer (some (a.add (k * 3))) := inv.done 14 _ 31 rfl rfl rfl
          have q32 : a'.tmps.getD 32 undef = Value.pointer (some ⟨(a.add (k * 3)).block, (a.add (k * 3)).off + 2, none⟩) := inv.done 15 _ 32 rfl rfl rfl
          have q33 : a'.tmps.getD 33 undef = Value.string (str S1) := inv.done 16 _ 33 rfl rfl rfl
          have q34 : a'.tmps.getD 34 undef = Value.slice (some b) q.length cbp := inv.done 17 _ 34 rfl rfl rfl
          have q35 : a'.tmps.getD 35 undef = Value.int IntKind.i64 (k : Int) := inv.done 18 _ 35 rfl rfl rfl
          have q36 : a'.tmps.getD 36 undef = Value.pointer (some (b.add (k * 3))) := inv.done 19 _ 36 rfl rfl rfl
          have q37 : a'.tmps.getD 37 undef = Value.pointer (some ⟨(b.add (k * 3)).block, (b.add (k * 3)).off + 2, none⟩) := inv.done 20 _ 37 rfl rfl rfl
          have q38 : a'.tmps.getD 38 undef = Value.string (str S1) := inv.done 21 _ 38 rfl rfl rfl
          have q39 : a'.tmps.getD 39 undef = Value.bool false := inv.done 22 _ 39 rfl rfl rfl
          have q40 : a'.tmps.getD 40 undef = Value.bool false := inv.done 23 _ 40 rfl rfl rfl
          have q41 : a'.tmps.getD 41 undef = Value.bool false := inv.done 24 _ 41 rfl rfl rfl
          have q42 : a'.tmps.getD 42 undef = Value.slice (some a) p.length cap := inv.done 25 _ 42 rfl rfl rfl
          have q43 : a'.tmps.getD 43 undef = Value.int IntKind.i64 (k : Int) := inv.done 26 _ 43 rfl rfl rfl
          have q44 : a'.tmps.getD 44 undef = Value.pointer (some (a.add (k * 3))) := inv.done 27 _ 44 rfl rfl rfl
          have q45 : a'.tmps.getD 45 undef = Value.pointer (some ⟨(a.add (k * 3)).block, (a.add (k * 3)).off + 1, none⟩) := inv.done 28 _ 45 rfl rfl rfl
          have q46 : a'.tmps.getD 46 undef = U := inv.done 29 _ 46 rfl rfl rfl
          have q47 : a'.tmps.getD 47 undef = Value.slice (some b) q.length cbp := inv.done 30 _ 47 rfl rfl rfl
          have q48 : a'.tmps.getD 48 undef = Value.int IntKind.i64 (k : Int) := inv.done 31 _ 48 rfl rfl rfl
          have q49 : a'.tmps.getD 49 undef = Value.pointer (some (b.add (k * 3))) := inv.done 32 _ 49 rfl rfl rfl
          have q50 : a'.tmps.getD 50 undef = Value.pointer (some ⟨(b.add (k * 3)).block, (b.add (k * 3)).off + 1, none⟩) := inv.done 33 _ 50 rfl rfl rfl
          have q51 : a'.tmps.getD 51 undef = V := inv.done 34 _ 51 rfl rfl rfl
          have q52 : a'.tmps.getD 52 undef = Value.bool BB := inv.done 35 _ 52 rfl rfl rfl
          have q53 : a'.tmps.getD 53 undef = Value.bool (!BB) := inv.done 36 _ 53 rfl rfl rfl
          have q54 : a'.tmps.getD 54 undef = Value.bool (!BB) := inv.done 37 _ 54 rfl rfl rfl
          clear inv
          simp only [List.filterMap_cons, List.filterMap_nil, Par.putAll, Act.put, List.setIfInBounds_toArray, List.set_cons_succ, List.set_cons_zero, q17, q18, q19, q20, q21, q22, q23, q24, q25, q26, q27, q28, q29, q30, q31, q32, q33, q34, q35, q36, q37, q38, q39, q40, q41, q42, q43, q44, q45, q46, q47, q48, q49, q50, q51, q52, q53, q54]
          clear q17 q18 q19 q20 q21 q22 q23 q24 q25 q26 q27 q28 q29 q30 q31 q32 q33 q34 q35 q36 q37 q38 q39 q40 q41 q42 q43 q44 q45 q46 q47 q48 q49 q50 q51 q52 q53 q54
          clear a'
          cases BB with
          | true =>
           have hxy : p[k].1 = q[k].1 := HSTEP.out.1 (by simpa using HBB.out)
           have HT2 := hid (show (p.map (·.1)).take (k + 1) = (q.map (·.1)).take (k + 1) by
            rw [List.take_succ_eq_append_getElem (by simpa using hlt), List.take_succ_eq_append_getElem (by simpa using hlt2), HT.out]
            simp [hxy])
           have HE2 := HE.out.trans hX
           clear hxy
           go_wp2
           go_roundw
           case rel => exact ⟨k + 1, by omega, by go_num, HT2, HE2⟩
           case measure => simp [intOf]; omega
          | false =>
           have HFIN := hid (recsame_ne (l := p.map (·.1)) (m := q.map (·.1)) (fun e => by
            have h1 : (p.map (·.1))[k]? = (q.map (·.1))[k]? := by rw [e]
            simp [hlt, hlt2] at h1
            have h2 := HSTEP.out.2 h1
            have h3 := HBB.out
            rw [h2] at h3
            simp at h3))
           go_wp2
           go_ret
           exact ⟨by rw [HFIN.out]; rfl, HE.out.trans hX⟩
        · have ht : (S1 == S2) = false := by simp [hss]
          have HFIN := hid (recsame_ne (l := p.map (·.1)) (m := q.map (·.1)) (fun e => hss (by
           have h1 : (p.map (·.1))[k]? = (q.map (·.1))[k]? := by rw [e]
           simp [hlt, hlt2] at h1
           rw [← HSS.out.1, ← HSS.out.2, h1])))
          clear hss hkk
          go_wp2_with fail
          refine Par.wp_region_par (l := [_, _, _, _, _, _, _, _, _, _, _, _, _, _, _, _, _, _, _, _, _, _, _, _, _, _, _, _, _, _, _, _, _, _, _, _, _, _]) rfl Ext (Par.VL [Par.EQ (Value.slice (some a) p.length cap), Par.EQ (Value.int IntKind.i64 (k : Int)), Par.EQ (Value.pointer (some (a.add (k * 3)))), Par.EQ (Value.pointer (some (a.add (k * 3)))), Par.EQ (Value.int IntKind.i64 P), Par.EQ (Value.slice (some b) q.length cbp), Par.EQ (Value.int IntKind.i64 (k : Int)), Par.EQ (Value.pointer (some (b.add (k * 3)))), Par.EQ (Value.pointer (some (b.add (k * 3)))), Par.EQ (Value.int IntKind.i64 Q), Par.EQ (Value.bool false), Par.EQ (Value.bool false), Par.EQ (Value.slice (some a) p.length cap), Par.EQ (Value.int IntKind.i64 (k : Int)), Par.EQ (Value.pointer (some (a.add (k * 3)))), Par.EQ (Value.pointer (some ⟨(a.add (k * 3)).block, (a.add (k * 3)).off + 2, none⟩)), Par.EQ (Value.string (str S1)), Par.EQ (Value.slice (some b) q.length cbp), Par.EQ (Value.int IntKind.i64 (k : Int)), Par.EQ (Value.pointer (some (b.add (k * 3)))), Par.EQ (Value.pointer (some ⟨(b.add (k * 3)).block, (b.add (k * 3)).off + 2, none⟩)), Par.EQ (Value.string (str S2)), Par.EQ (Value.bool true), Par.EQ (Value.bool true), Par.EQ (Value.bool true), Par.EQ (undef), Par.EQ (undef), Par.EQ (undef), Par.EQ (undef), Par.EQ (undef), Par.EQ (undef), Par.EQ (undef), Par.EQ (undef), Par.EQ (undef), Par.EQ (undef), Par.EQ (undef), Par.EQ (undef), Par.EQ (Value.bool true)]) (by kernel_rfl) Ext.refl (fun _ _ _ h1 h2 => Ext.trans h1 h2) (Ext.draw _) (Par.VL_stab ?_) ?_ ?_
          · simp only [List.forall_mem_cons, List.not_mem_nil, false_implies, implies_true, and_true]
            refine ⟨fun _ _ _ _ h => h, fun _ _ _ _ h => h, fun _ _ _ _ h => h, fun _ _ _ _ h => h, fun _ _ _ _ h => h, fun _ _ _ _ h => h, fun _ _ _ _ h => h, fun _ _ _ _ h => h, fun _ _ _ _ h => h, fun _ _ _ _ h => h, fun _ _ _ _ h => h, fun _ _ _ _ h => h, fun _ _ _ _ h => h, fun _ _ _ _ h => h, fun _ _ _ _ h => h, fun _ _ _ _ h => h, fun _ _ _ _ h => h, fun _ _ _ _ h => h, fun _ _ _ _ h => h, fun _ _ _ _ h => h, fun _ _ _ _ h => h, fun _ _ _ _ h => h, fun _ _ _ _ h => h, fun _ _ _ _ h => h, fun _ _ _ _ h => h, fun _ _ _ _ h => h, fun _ _ _ _ h => h, fun _ _ _ _ h => h, fun _ _ _ _ h => h, fun _ _ _ _ h => h, fun _ _ _ _ h => h, fun _ _ _ _ h => h, fun _ _ _ _ h => h, fun _ _ _ _ h => h, fun _ _ _ _ h => h, fun _ _ _ _ h => h, fun _ _ _ _ h => h, fun _ _ _ _ h => h⟩
          · refine ⟨⟨fun _ _ => trivial, fun ρ w' hX hG hk => ?_⟩, ?_⟩
            · exact Par.val_of_run rfl ⟨Ext.refl _, hk.1⟩
            refine ⟨⟨fun _ _ => trivial, fun ρ w' hX hG hk => ?_⟩, ?_⟩
            · exact Par.val_of_run rfl ⟨Ext.refl _, hk.1⟩
            refine ⟨⟨fun _ _ => trivial, fun ρ w' hX hG hk => ?_⟩, ?_⟩
            · obtain ⟨(e0 : ρ (.tmp 17) = Value.slice (some a) p.length cap), (e1 : ρ (.tmp 18) = Value.int IntKind.i64 (k : Int)), -⟩ := hk; refine Par.val_k fun K hK => ?_; unfold Par.val
              (go_simp; exact hK _ _ ⟨Ext.refl _, rfl⟩)
            refine ⟨⟨fun _ _ => trivial, fun ρ w' hX hG hk => ?_⟩, ?_⟩
            · obtain ⟨(e0 : ρ (.tmp 19) = Value.pointer (some (a.add (k * 3)))), -⟩ := hk; refine Par.val_k fun K hK => ?_; unfold Par.val
              (go_simp; exact hK _ _ ⟨Ext.refl _, rfl⟩)
            refine ⟨⟨fun _ _ => trivial, fun ρ w' hX hG hk => ?_⟩, ?_⟩
            · obtain ⟨(e0 : ρ (.tmp 20) = Value.pointer (some (a.add (k * 3)))), -⟩ := hk; refine Par.val_k fun K hK => ?_; unfold Par.val
              (have c := hX.cell C0.out; go_simp; exact hK _ _ ⟨Ext.refl _, rfl⟩)
            refine ⟨⟨fun _ _ => trivial, fun ρ w' hX hG hk => ?_⟩, ?_⟩
            · exact Par.val_of_run rfl ⟨Ext.refl _, hk.1⟩
            refine ⟨⟨fun _ _ => trivial, fun ρ w' hX hG hk => ?_⟩, ?_⟩
            · exact Par.val_of_run rfl ⟨Ext.refl _, hk.1⟩
            refine ⟨⟨fun _ _ => trivial, fun ρ w' hX hG hk => ?_⟩, ?_⟩
            · obtain ⟨(e0 : ρ (.tmp 22) = Value.slice (some b) q.length cbp), (e1 : ρ (.tmp 23) = Value.int IntKind.i64 (k : Int)), -⟩ := hk; refine Par.val_k fun K hK => ?_; unfold Par.val
              (go_simp; exact hK _ _ ⟨Ext.refl _, rfl⟩)
            refine ⟨⟨fun _ _ => trivial, fun ρ w' hX hG hk => ?_⟩, ?_⟩
            · obtain ⟨(e0 : ρ (.tmp 24) = Value.pointer (some (b.add (k * 3)))), -⟩ := hk; refine Par.val_k fun K hK => ?_; unfold Par.val
              (go_simp; exact hK _ _ ⟨Ext.refl _, rfl⟩)
            refine ⟨⟨fun _ _ => trivial, fun ρ w' hX hG hk => ?_⟩, ?_⟩
            · obtain ⟨(e0 : ρ (.tmp 25) = Value.pointer (some (b.add (k * 3)))), -⟩ := hk; refine Par.val_k fun K hK => ?_; unfold Par.val
              (have c := hX.cell D0.out; go_simp; exact hK _ _ ⟨Ext.refl _, rfl⟩)
            refine ⟨⟨fun _ _ => trivial, fun ρ w' hX hG hk => ?_⟩, ?_⟩
            · obtain ⟨(e0 : ρ (.tmp 21) = Value.int IntKind.i64 P), (e1 : ρ (.tmp 26) = Value.int IntKind.i64 Q), -⟩ := hk; refine Par.val_k fun K hK => ?_; unfold Par.val
              (go_simp; exact hK _ _ ⟨Ext.refl _, rfl⟩)
            refine ⟨⟨fun _ _ => trivial, fun ρ w' hX hG hk => ?_⟩, ?_⟩
            · obtain ⟨(e0 : ρ (.tmp 27) = Value.bool false), -⟩ := hk; refine Par.val_k fun K hK => ?_; unfold Par.val
              (go_simp; exact hK _ _ ⟨Ext.refl _, rfl⟩)
            refine ⟨⟨fun _ _ u hu => .inl hu, fun ρ w' hX hG hk => ?_⟩, ?_⟩
            · exact Par.val_of_run rfl ⟨Ext.refl _, hk.1⟩
            refine ⟨⟨fun _ _ u hu => .inl hu, fun ρ w' hX hG hk => ?_⟩, ?_⟩
            · exact Par.val_of_run rfl ⟨Ext.refl _, hk.1⟩
            refine ⟨⟨fun _ _ u hu => .inl hu, fun ρ w' hX hG hk => ?_⟩, ?_⟩
            · obtain ⟨(e0 : ρ (.tmp 29) = Value.slice (some a) p.length cap), (e1 : ρ (.tmp 30) = Value.int IntKind.i64 (k : Int)), -⟩ := hk; refine Par.val_k fun K hK => ?_; unfold Par.val
              (go_simp; exact hK _ _ ⟨Ext.refl _, rfl⟩)
            refine ⟨⟨fun _ _ u hu => .inl hu, fun ρ w' hX hG hk => ?_⟩, ?_⟩
            · obtain ⟨(e0 : ρ (.tmp 31) = Value.pointer (some (a.add (k * 3)))), -⟩ := hk; refine Par.val_k fun K hK => ?_; unfold Par.val
              (go_simp; exact hK _ _ ⟨Ext.refl _, rfl⟩)
            refine ⟨⟨fun _ _ u hu => .inl hu, fun ρ w' hX hG hk => ?_⟩, ?_⟩
            · obtain ⟨(e0 : ρ (.tmp 32) = Value.pointer (some ⟨(a.add (k * 3)).block, (a.add (k * 3)).off + 2, none⟩)), -⟩ := hk; refine Par.val_k fun K hK => ?_; unfold Par.val
              (have c := hX.cell C2.out; go_simp; exact hK _ _ ⟨Ext.refl _, rfl⟩)
            refine ⟨⟨fun _ _ u hu => .inl hu, fun ρ w' hX hG hk => ?_⟩, ?_⟩
            · exact Par.val_of_run rfl ⟨Ext.refl _, hk.1⟩
            refine ⟨⟨fun _ _ u hu => .inl hu, fun ρ w' hX hG hk => ?_⟩, ?_⟩
            · exact Par.val_of_run rfl ⟨Ext.refl _, hk.1⟩
            refine ⟨⟨fun _ _ u hu => .inl hu, fun ρ w' hX hG hk => ?_⟩, ?_⟩
            · obtain ⟨(e0 : ρ (.tmp 34) = Value.slice (some b) q.length cbp), (e1 : ρ (.tmp 35) = Value.int IntKind.i64 (k : Int)), -⟩ := hk; refine Par.val_k fun K hK => ?_; unfold Par.val
              (go_simp; exact hK _ _ ⟨Ext.refl _, rfl⟩)
            refine ⟨⟨fun _ _ u hu => .inl hu, fun ρ w' hX hG hk => ?_⟩, ?_⟩
            · obtain ⟨(e0 : ρ (.tmp 36) = Value.pointer (some (b.add (k * 3)))), -⟩ := hk; refine Par.val_k fun K hK => ?_; unfold Par.val
              (go_simp; exact hK _ _ ⟨Ext.refl _, rfl⟩)
            refine ⟨⟨fun _ _ u hu => .inl hu, fun ρ w' hX hG hk => ?_⟩, ?_⟩
            · obtain ⟨(e0 : ρ (.tmp 37) = Value.pointer (some ⟨(b.add (k * 3)).block, (b.add (k * 3)).off + 2, none⟩)), -⟩ := hk; refine Par.val_k fun K hK => ?_; unfold Par.val
              (have c := hX.cell D2.out; go_simp; exact hK _ _ ⟨Ext.refl _, rfl⟩)
            refine ⟨⟨fun _ _ u hu => .inl hu, fun ρ w' hX hG hk => ?_⟩, ?_⟩
            · obtain ⟨(e0 : ρ (.tmp 33) = Value.string (str S1)), (e1 : ρ (.tmp 38) = Value.string (str S2)), -⟩ := hk; refine Par.val_k fun K hK => ?_; unfold Par.val
              (go_simp; exact hK _ _ ⟨Ext.refl _, rfl⟩)
            refine ⟨⟨fun _ _ => trivial, fun ρ w' hX hG hk => ?_⟩, ?_⟩
            · obtain ⟨(e0 : ρ (.tmp 28) = Value.bool false), (e1 : ρ (Operand.const (Value.bool true)) = (Value.bool true)), (e2 : ρ (.tmp 39) = Value.bool true), -⟩ := hk; refine Par.val_k fun K hK => ?_; unfold Par.val
              (go_simp; exact hK _ _ ⟨Ext.refl _, rfl⟩)
            refine ⟨⟨fun _ _ => trivial, fun ρ w' hX hG hk => ?_⟩, ?_⟩
            · obtain ⟨(e0 : ρ (.tmp 40) = Value.bool true), -⟩ := hk; refine Par.val_k fun K hK => ?_; unfold Par.val
              (go_simp; exact hK _ _ ⟨Ext.refl _, rfl⟩)
            refine ⟨⟨fun _ _ u hu => .inr rfl, fun ρ w' hX hG hk => ?_⟩, ?_⟩
            · cases hG
            refine ⟨⟨fun _ _ u hu => .inr rfl, fun ρ w' hX hG hk => ?_⟩, ?_⟩
            · cases hG
            refine ⟨⟨fun _ _ u hu => .inr rfl, fun ρ w' hX hG hk => ?_⟩, ?_⟩
            · cases hG
            refine ⟨⟨fun _ _ u hu => .inr rfl, fun ρ w' hX hG hk => ?_⟩, ?_⟩
            · cases hG
            refine ⟨⟨fun _ _ u hu => .inr rfl, fun ρ w' hX hG hk => ?_⟩, ?_⟩
            · cases hG
            refine ⟨⟨fun _ _ u hu => .inr rfl, fun ρ w' hX hG hk => ?_⟩, ?_⟩
            · cases hG
            refine ⟨⟨fun _ _ u hu => .inr rfl, fun ρ w' hX hG hk => ?_⟩, ?_⟩
            · cases hG
            refine ⟨⟨fun _ _ u hu => .inr rfl, fun ρ w' hX hG hk => ?_⟩, ?_⟩
            · cases hG
            refine ⟨⟨fun _ _ u hu => .inr rfl, fun ρ w' hX hG hk => ?_⟩, ?_⟩
            · cases hG
            refine ⟨⟨fun _ _ u hu => .inr rfl, fun ρ w' hX hG hk => ?_⟩, ?_⟩
            · cases hG
            refine ⟨⟨fun _ _ u hu => .inr rfl, fun ρ w' hX hG hk => ?_⟩, ?_⟩
            · cases hG
            refine ⟨⟨fun _ _ u hu => .inr rfl, fun ρ w' hX hG hk => ?_⟩, ?_⟩
            · cases hG
            refine ⟨⟨fun _ _ => trivial, fun ρ w' hX hG hk => ?_⟩, ?_⟩
            · obtain ⟨(e0 : ρ (.tmp 41) = Value.bool true), (e1 : ρ (Operand.const (Value.bool true)) = (Value.bool true)), (e2 : ρ (.tmp 53) = undef), -⟩ := hk; refine Par.val_k fun K hK => ?_; unfold Par.val
              (go_simp; exact hK _ _ ⟨Ext.refl _, rfl⟩)
            trivial
          intro a' w' inv
          have hX := inv.ext
          have q17 : a'.tmps.getD 17 undef = Value.slice (some a) p.length cap := inv.done 0 _ 17 rfl rfl rfl
          have q18 : a'.tmps.getD 18 undef = Value.int IntKind.i64 (k : Int) := inv.done 1 _ 18 rfl rfl rfl
          have q19 : a'.tmps.getD 19 undef = Value.pointer (some (a.add (k * 3))) := inv.done 2 _ 19 rfl rfl rfl
          have q20 : a'.tmps.getD 20 undef = Value.pointer (some (a.add (k * 3))) := inv.done 3 _ 20 rfl rfl rfl
          have q21 : a'.tmps.getD 21 undef = Value.int IntKind.i64 P := inv.done 4 _ 21 rfl rfl rfl
          have q22 : a'.tmps.getD 22 undef = Value.slice (some b) q.length cbp := inv.done 5 _ 22 rfl rfl rfl
          have q23 : a'.tmps.getD 23 undef = Value.int IntKind.i64 (k : Int) := inv.done 6 _ 23 rfl rfl rfl
          have q24 : a'.tmps.getD 24 undef = Value.pointer (some (b.add (k * 3))) := inv.done 7 _ 24 rfl rfl rfl
          have q25 : a'.tmps.getD 25 undef = Value.pointer (some (b.add (k * 3))) := inv.done 8 _ 25 rfl rfl rfl
          have q26 : a'.tmps.getD 26 undef = Value.int IntKind.i64 Q := inv.done 9 _ 26 rfl rfl rfl
          have q27 : a'.tmps.getD 27 undef = Value.bool false := inv.done 10 _ 27 rfl rfl rfl
          have q28 : a'.tmps.getD 28 undef = Value.bool false := inv.done 11 _ 28 rfl rfl rfl
          have q29 : a'.tmps.getD 29 undef = Value.slice (some a) p.length cap := inv.done 12 _ 29 rfl rfl rfl
          have q30 : a'.tmps.getD 30 undef = Value.int IntKind.i64 (k : Int) := inv.done 13 _ 30 rfl rfl rfl
          have q31 : a'.tmps.getD 31 undef = Value.pointer (some (a.add (k * 3))) := inv.done 14 _ 31 rfl rfl rfl
          have q32 : a'.tmps.getD 32 undef = Value.pointer (some ⟨(a.add (k * 3)).block, (a.add (k * 3)).off + 2, none⟩) := inv.done 15 _ 32 rfl rfl rfl
          have q33 : a'.tmps.getD 33 undef = Value.string (str S1) := inv.done 16 _ 33 rfl rfl rfl
          have q34 : a'.tmps.getD 34 undef = Value.slice (some b) q.length cbp := inv.done 17 _ 34 rfl rfl rfl
          have q35 : a'.tmps.getD 35 undef = Value.int IntKind.i64 (k : Int) := inv.done 18 _ 35 rfl rfl rfl
          have q36 : a'.tmps.getD 36 undef = Value.pointer (some (b.add (k * 3))) := inv.done 19 _ 36 rfl rfl rfl
          have q37 : a'.tmps.getD 37 undef = Value.pointer (some ⟨(b.add (k * 3)).block, (b.add (k * 3)).off + 2, none⟩) := inv.done 20 _ 37 rfl rfl rfl
          have q38 : a'.tmps.getD 38 undef = Value.string (str S2) := inv.done 21 _ 38 rfl rfl rfl
          have q39 : a'.tmps.getD 39 undef = Value.bool true := inv.done 22 _ 39 rfl rfl rfl
          have q40 : a'.tmps.getD 40 undef = Value.bool true := inv.done 23 _ 40 rfl rfl rfl
          have q41 : a'.tmps.getD 41 undef = Value.bool true := inv.done 24 _ 41 rfl rfl rfl
          have q42 : a'.tmps.getD 42 undef = undef := inv.done 25 _ 42 rfl rfl rfl
          have q43 : a'.tmps.getD 43 undef = undef := inv.done 26 _ 43 rfl rfl rfl
          have q44 : a'.tmps.getD 44 undef = undef := inv.done 27 _ 44 rfl rfl rfl
          have q45 : a'.tmps.getD 45 undef = undef := inv.done 28 _ 45 rfl rfl rfl
          have q46 : a'.tmps.getD 46 undef = undef := inv.done 29 _ 46 rfl rfl rfl
          have q47 : a'.tmps.getD 47 undef = undef := inv.done 30 _ 47 rfl rfl rfl
          have q48 : a'.tmps.getD 48 undef = undef := inv.done 31 _ 48 rfl rfl rfl
          have q49 : a'.tmps.getD 49 undef = undef := inv.done 32 _ 49 rfl rfl rfl
          have q50 : a'.tmps.getD 50 undef = undef := inv.done 33 _ 50 rfl rfl rfl
          have q51 : a'.tmps.getD 51 undef = undef := inv.done 34 _ 51 rfl rfl rfl
          have q52 : a'.tmps.getD 52 undef = undef := inv.done 35 _ 52 rfl rfl rfl
          have q53 : a'.tmps.getD 53 undef = undef := inv.done 36 _ 53 rfl rfl rfl
          have q54 : a'.tmps.getD 54 undef = Value.bool true := inv.done 37 _ 54 rfl rfl rfl
          clear inv
          simp only [List.filterMap_cons, List.filterMap_nil, Par.putAll, Act.put, List.setIfInBounds_toArray, List.set_cons_succ, List.set_cons_zero, q17, q18, q19, q20, q21, q22, q23, q24, q25, q26, q27, q28, q29, q30, q31, q32, q33, q34, q35, q36, q37, q38, q39, q40, q41, q42, q43, q44, q45, q46, q47, q48, q49, q50, q51, q52, q53, q54]
          clear q17 q18 q19 q20 q21 q22 q23 q24 q25 q26 q27 q28 q29 q30 q31 q32 q33 q34 q35 q36 q37 q38 q39 q40 q41 q42 q43 q44 q45 q46 q47 q48 q49 q50 q51 q52 q53 q54
          clear a'
          go_wp2
          go_ret
          exact ⟨by rw [HFIN.out]; rfl, HE.out.trans hX⟩
      · have hkn : (P != Q) = true := by simp [hkk]
        have HFIN := hid (recsame_ne (l := p.map (·.1)) (m := q.map (·.1)) (fun e => hkk (by
         have h1 : (p.map (·.1))[k]? = (q.map (·.1))[k]? := by rw [e]
         simp [hlt, hlt2] at h1
         rw [← HPQ.out.1, ← HPQ.out.2, h1])))
        clear hkk
        go_wp2_with fail
        refine Par.wp_region_par (l := [_, _, _, _, _, _, _, _, _, _, _, _, _, _, _, _, _, _, _, _, _, _, _, _, _, _, _, _, _, _, _, _, _, _, _, _, _, _]) rfl Ext (Par.VL [Par.EQ (Value.slice (some a) p.length cap), Par.EQ (Value.int IntKind.i64 (k : Int)), Par.EQ (Value.pointer (some (a.add (k * 3)))), Par.EQ (Value.pointer (some (a.add (k * 3)))), Par.EQ (Value.int IntKind.i64 P), Par.EQ (Value.slice (some b) q.length cbp), Par.EQ (Value.int IntKind.i64 (k : Int)), Par.EQ (Value.pointer (some (b.add (k * 3)))), Par.EQ (Value.pointer (some (b.add (k * 3)))), Par.EQ (Value.int IntKind.i64 Q), Par.EQ (Value.bool true), Par.EQ (Value.bool true), Par.EQ (undef), Par.EQ (undef), Par.EQ (undef), Par.EQ (undef), Par.EQ (undef), Par.EQ (undef), Par.EQ (undef), Par.EQ (undef), Par.EQ (undef), Par.EQ (undef), Par.EQ (undef), Par.EQ (Value.bool true), Par.EQ (Value.bool true), Par.EQ (undef), Par.EQ (undef), Par.EQ (undef), Par.EQ (undef), Par.EQ (undef), Par.EQ (undef), Par.EQ (undef), Par.EQ (undef), Par.EQ (undef), Par.EQ (undef), Par.EQ (undef), Par.EQ (undef), Par.EQ (Value.bool true)]) (by kernel_rfl) Ext.refl (fun _ _ _ h1 h2 => Ext.trans h1 h2) (Ext.draw _) (Par.VL_stab ?_) ?_ ?_
        · simp only [List.forall_mem_cons, List.not_mem_nil, false_implies, implies_true, and_true]
          refine ⟨fun _ _ _ _ h => h, fun _ _ _ _ h => h, fun _ _ _ _ h => h, fun _ _ _ _ h => h, fun _ _ _ _ h => h, fun _ _ _ _ h => h, fun _ _ _ _ h => h, fun _ _ _ _ h => h, fun _ _ _ _ h => h, fun _ _ _ _ h => h, fun _ _ _ _ h => h, fun _ _ _ _ h => h, fun _ _ _ _ h => h, fun _ _ _ _ h => h, fun _ _ _ _ h => h, fun _ _ _ _ h => h, fun _ _ _ _ h => h, fun _ _ _ _ h => h, fun _ _ _ _ h => h, fun _ _ _ _ h => h, fun _ _ _ _ h => h, fun _ _ _ _ h => h, fun _ _ _ _ h => h, fun _ _ _ _ h => h, fun _ _ _ _ h => h, fun _ _ _ _ h => h, fun _ _ _ _ h => h, fun _ _ _ _ h => h, fun _ _ _ _ h => h, fun _ _ _ _ h => h, fun _ _ _ _ h => h, fun _ _ _ _ h => h, fun _ _ _ _ h => h, fun _ _ _ _ h => h, fun _ _ _ _ h => h, fun _ _ _ _ h => h, fun _ _ _ _ h => h, fun _ _ _ _ h => h⟩
        · refine ⟨⟨fun _ _ => trivial, fun ρ w' hX hG hk => ?_⟩, ?_⟩
          · exact Par.val_of_run rfl ⟨Ext.refl _, hk.1⟩
          refine ⟨⟨fun _ _ => trivial, fun ρ w' hX hG hk => ?_⟩, ?_⟩
          · exact Par.val_of_run rfl ⟨Ext.refl _, hk.1⟩
          refine ⟨⟨fun _ _ => trivial, fun ρ w' hX hG hk => ?_⟩, ?_⟩
          · obtain ⟨(e0 : ρ (.tmp 17) = Value.slice (some a) p.length cap), (e1 : ρ (.tmp 18) = Value.int IntKind.i64 (k : Int)), -⟩ := hk; refine Par.val_k fun K hK => ?_; unfold Par.val
            (go_simp; exact hK _ _ ⟨Ext.refl _, rfl⟩)
          refine ⟨⟨fun _ _ => trivial, fun ρ w' hX hG hk => ?_⟩, ?_⟩
          · obtain ⟨(e0 : ρ (.tmp 19) = Value.pointer (some (a.add (k * 3)))), -⟩ := hk; refine Par.val_k fun K hK => ?_; unfold Par.val
            (go_simp; exact hK _ _ ⟨Ext.refl _, rfl⟩)
          refine ⟨⟨fun _ _ => trivial, fun ρ w' hX hG hk => ?_⟩, ?_⟩
          · obtain ⟨(e0 : ρ (.tmp 20) = Value.pointer (some (a.add (k * 3)))), -⟩ := hk; refine Par.val_k fun K hK => ?_; unfold Par.val
            (have c := hX.cell C0.out; go_simp; exact hK _ _ ⟨Ext.refl _, rfl⟩)
          refine ⟨⟨fun _ _ => trivial, fun ρ w' hX hG hk => ?_⟩, ?_⟩
          · exact Par.val_of_run rfl ⟨Ext.refl _, hk.1⟩
          refine ⟨⟨fun _ _ => trivial, fun ρ w' hX hG hk => ?_⟩, ?_⟩
          · exact Par.val_of_run rfl ⟨Ext.refl _, hk.1⟩
          refine ⟨⟨fun _ _ => trivial, fun ρ w' hX hG hk => ?_⟩, ?_⟩
          · obtain ⟨(e0 : ρ (.tmp 22) = Value.slice (some b) q.length cbp), (e1 : ρ (.tmp 23) = Value.int IntKind.i64 (k : Int)), -⟩ := hk; refine Par.val_k fun K hK => ?_; unfold Par.val
            (go_simp; exact hK _ _ ⟨Ext.refl _, rfl⟩)
          refine ⟨⟨fun _ _ => trivial, fun ρ w' hX hG hk => ?_⟩, ?_⟩
          · obtain ⟨(e0 : ρ (.tmp 24) = Value.pointer (some (b.add (k * 3)))), -⟩ := hk; refine Par.val_k fun K hK => ?_; unfold Par.val
            (go_simp; exact hK _ _ ⟨Ext.refl _, rfl⟩)
          refine ⟨⟨fun _ _ => trivial, fun ρ w' hX hG hk => ?_⟩, ?_⟩
          · obtain ⟨(e0 : ρ (.tmp 25) = Value.pointer (some (b.add (k * 3)))), -⟩ := hk; refine Par.val_k fun K hK => ?_; unfold Par.val
            (have c := hX.cell D0.out; go_simp; exact hK _ _ ⟨Ext.refl _, rfl⟩)
          refine ⟨⟨fun _ _ => trivial, fun ρ w' hX hG hk => ?_⟩, ?_⟩
          · obtain ⟨(e0 : ρ (.tmp 21) = Value.int IntKind.i64 P), (e1 : ρ (.tmp 26) = Value.int IntKind.i64 Q), -⟩ := hk; refine Par.val_k fun K hK => ?_; unfold Par.val
            (go_simp; exact hK _ _ ⟨Ext.refl _, rfl⟩)
          refine ⟨⟨fun _ _ => trivial, fun ρ w' hX hG hk => ?_⟩, ?_⟩
          · obtain ⟨(e0 : ρ (.tmp 27) = Value.bool true), -⟩ := hk; refine Par.val_k fun K hK => ?_; unfold Par.val
            (go_simp; exact hK _ _ ⟨Ext.refl _, rfl⟩)
          refine ⟨⟨fun _ _ u hu => .inr rfl, fun ρ w' hX hG hk => ?_⟩, ?_⟩
          · cases hG
          refine ⟨⟨fun _ _ u hu => .inr rfl, fun ρ w' hX hG hk => ?_⟩, ?_⟩
          · cases hG
          refine ⟨⟨fun _ _ u hu => .inr rfl, fun ρ w' hX hG hk => ?_⟩, ?_⟩
          · cases hG
          refine ⟨⟨fun _ _ u hu => .inr rfl, fun ρ w' hX hG hk => ?_⟩, ?_⟩
          · cases hG
          refine ⟨⟨fun _ _ u hu => .inr rfl, fun ρ w' hX hG hk => ?_⟩, ?_⟩
          · cases hG
          refine ⟨⟨fun _ _ u hu => .inr rfl, fun ρ w' hX hG hk => ?_⟩, ?_⟩
          · cases hG
          refine ⟨⟨fun _ _ u hu => .inr rfl, fun ρ w' hX hG hk => ?_⟩, ?_⟩
          · cases hG
          refine ⟨⟨fun _ _ u hu => .inr rfl, fun ρ w' hX hG hk => ?_⟩, ?_⟩
          · cases hG
          refine ⟨⟨fun _ _ u hu => .inr rfl, fun ρ w' hX hG hk => ?_⟩, ?_⟩
          · cases hG
          refine ⟨⟨fun _ _ u hu => .inr rfl, fun ρ w' hX hG hk => ?_⟩, ?_⟩
          · cases hG
          refine ⟨⟨fun _ _ u hu => .inr rfl, fun ρ w' hX hG hk => ?_⟩, ?_⟩
          · cases hG
          refine ⟨⟨fun _ _ => trivial, fun ρ w' hX hG hk => ?_⟩, ?_⟩
          · obtain ⟨(e0 : ρ (.tmp 28) = Value.bool true), (e1 : ρ (Operand.const (Value.bool true)) = (Value.bool true)), (e2 : ρ (.tmp 39) = undef), -⟩ := hk; refine Par.val_k fun K hK => ?_; unfold Par.val
            (go_simp; exact hK _ _ ⟨Ext.refl _, rfl⟩)
          refine ⟨⟨fun _ _ => trivial, fun ρ w' hX hG hk => ?_⟩, ?_⟩
          · obtain ⟨(e0 : ρ (.tmp 40) = Value.bool true), -⟩ := hk; refine Par.val_k fun K hK => ?_; unfold Par.val
            (go_simp; exact hK _ _ ⟨Ext.refl _, rfl⟩)
          refine ⟨⟨fun _ _ u hu => .inr rfl, fun ρ w' hX hG hk => ?_⟩, ?_⟩
          · cases hG
          refine ⟨⟨fun _ _ u hu => .inr rfl, fun ρ w' hX hG hk => ?_⟩, ?_⟩
          · cases hG
          refine ⟨⟨fun _ _ u hu => .inr rfl, fun ρ w' hX hG hk => ?_⟩, ?_⟩
          · cases hG
          refine ⟨⟨fun _ _ u hu => .inr rfl, fun ρ w' hX hG hk => ?_⟩, ?_⟩
          · cases hG
          refine ⟨⟨fun _ _ u hu => .inr rfl, fun ρ w' hX hG hk => ?_⟩, ?_⟩
          · cases hG
          refine ⟨⟨fun _ _ u hu => .inr rfl, fun ρ w' hX hG hk => ?_⟩, ?_⟩
          · cases hG
          refine ⟨⟨fun _ _ u hu => .inr rfl, fun ρ w' hX hG hk => ?_⟩, ?_⟩
          · cases hG
          refine ⟨⟨fun _ _ u hu => .inr rfl, fun ρ w' hX hG hk => ?_⟩, ?_⟩
          · cases hG
          refine ⟨⟨fun _ _ u hu => .inr rfl, fun ρ w' hX hG hk => ?_⟩, ?_⟩
          · cases hG
          refine ⟨⟨fun _ _ u hu => .inr rfl, fun ρ w' hX hG hk => ?_⟩, ?_⟩
          · cases hG
          refine ⟨⟨fun _ _ u hu => .inr rfl, fun ρ w' hX hG hk => ?_⟩, ?_⟩
          · cases hG
          refine ⟨⟨fun _ _ u hu => .inr rfl, fun ρ w' hX hG hk => ?_⟩, ?_⟩
          · cases hG
          refine ⟨⟨fun _ _ => trivial, fun ρ w' hX hG hk => ?_⟩, ?_⟩
          · obtain ⟨(e0 : ρ (.tmp 41) = Value.bool true), (e1 : ρ (Operand.const (Value.bool true)) = (Value.bool true)), (e2 : ρ (.tmp 53) = undef), -⟩ := hk; refine Par.val_k fun K hK => ?_; unfold Par.val
            (go_simp; exact hK _ _ ⟨Ext.refl _, rfl⟩)
          trivial
        intro a' w' inv
        have hX := inv.ext
        have q17 : a'.tmps.getD 17 undef = Value.slice (some a) p.length cap := inv.done 0 _ 17 rfl rfl rfl
        have q18 : a'.tmps.getD 18 undef = Value.int IntKind.i64 (k : Int) := inv.done 1 _ 18 rfl rfl rfl
        have q19 : a'.tmps.getD 19 undef = Value.pointer (some (a.add (k * 3))) := inv.done 2 _ 19 rfl rfl rfl
        have q20 : a'.tmps.getD 20 undef = Value.pointer (some (a.add (k * 3))) := inv.done 3 _ 20 rfl rfl rfl
        have q21 : a'.tmps.getD 21 undef = Value.int IntKind.i64 P := inv.done 4 _ 21 rfl rfl rfl
        have q22 : a'.tmps.getD 22 undef = Value.slice (some b) q.length cbp := inv.done 5 _ 22 rfl rfl rfl
        have q23 : a'.tmps.getD 23 undef = Value.int IntKind.i64 (k : Int) := inv.done 6 _ 23 rfl rfl rfl
        have q24 : a'.tmps.getD 24 undef = Value.pointer (some (b.add (k * 3))) := inv.done 7 _ 24 rfl rfl rfl
        have q25 : a'.tmps.getD 25 undef = Value.pointer (some (b.add (k * 3))) := inv.done 8 _ 25 rfl rfl rfl
        have q26 : a'.tmps.getD 26 undef = Value.int IntKind.i64 Q := inv.done 9 _ 26 rfl rfl rfl
        have q27 : a'.tmps.getD 27 undef = Value.bool true := inv.done 10 _ 27 rfl rfl rfl
        have q28 : a'.tmps.getD 28 undef = Value.bool true := inv.done 11 _ 28 rfl rfl rfl
        have q29 : a'.tmps.getD 29 undef = undef := inv.done 12 _ 29 rfl rfl rfl
        have q30 : a'.tmps.getD 30 undef = undef := inv.done 13 _ 30 rfl rfl rfl
        have q31 : a'.tmps.getD 31 undef = undef := inv.done 14 _ 31 rfl rfl rfl
        have q32 : a'.tmps.getD 32 undef = undef := inv.done 15 _ 32 rfl rfl rfl
        have q33 : a'.tmps.getD 33 undef = undef := inv.done 16 _ 33 rfl rfl rfl
        have q34 : a'.tmps.getD 34 undef = undef := inv.done 17 _ 34 rfl rfl rfl
        have q35 : a'.tmps.getD 35 undef = undef := inv.done 18 _ 35 rfl rfl rfl
        have q36 : a'.tmps.getD 36 undef = undef := inv.done 19 _ 36 rfl rfl rfl
        have q37 : a'.tmps.getD 37 undef = undef := inv.done 20 _ 37 rfl rfl rfl
        have q38 : a'.tmps.getD 38 undef = undef := inv.done 21 _ 38 rfl rfl rfl
        have q39 : a'.tmps.getD 39 undef = undef := inv.done 22 _ 39 rfl rfl rfl
        have q40 : a'.tmps.getD 40 undef = Value.bool true := inv.done 23 _ 40 rfl rfl rfl
        have q41 : a'.tmps.getD 41 undef = Value.bool true := inv.done 24 _ 41 rfl rfl rfl
        have q42 : a'.tmps.getD 42 undef = undef := inv.done 25 _ 42 rfl rfl rfl
        have q43 : a'.tmps.getD 43 undef = undef := inv.done 26 _ 43 rfl rfl rfl
        have q44 : a'.tmps.getD 44 undef = undef := inv.done 27 _ 44 rfl rfl rfl
        have q45 : a'.tmps.getD 45 undef = undef := inv.done 28 _ 45 rfl rfl rfl
        have q46 : a'.tmps.getD 46 undef = undef := inv.done 29 _ 46 rfl rfl rfl
        have q47 : a'.tmps.getD 47 undef = undef := inv.done 30 _ 47 rfl rfl rfl
        have q48 : a'.tmps.getD 48 undef = undef := inv.done 31 _ 48 rfl rfl rfl
        have q49 : a'.tmps.getD 49 undef = undef := inv.done 32 _ 49 rfl rfl rfl
        have q50 : a'.tmps.getD 50 undef = undef := inv.done 33 _ 50 rfl rfl rfl
        have q51 : a'.tmps.getD 51 undef = undef := inv.done 34 _ 51 rfl rfl rfl
        have q52 : a'.tmps.getD 52 undef = undef := inv.done 35 _ 52 rfl rfl rfl
        have q53 : a'.tmps.getD 53 undef = undef := inv.done 36 _ 53 rfl rfl rfl
        have q54 : a'.tmps.getD 54 undef = Value.bool true := inv.done 37 _ 54 rfl rfl rfl
        clear inv
        simp only [List.filterMap_cons, List.filterMap_nil, Par.putAll, Act.put, List.setIfInBounds_toArray, List.set_cons_succ, List.set_cons_zero, q17, q18, q19, q20, q21, q22, q23, q24, q25, q26, q27, q28, q29, q30, q31, q32, q33, q34, q35, q36, q37, q38, q39, q40, q41, q42, q43, q44, q45, q46, q47, q48, q49, q50, q51, q52, q53, q54]
        clear q17 q18 q19 q20 q21 q22 q23 q24 q25 q26 q27 q28 q29 q30 q31 q32 q33 q34 q35 q36 q37 q38 q39 q40 q41 q42 q43 q44 q45 q46 q47 q48 q49 q50 q51 q52 q53 q54
        clear a'
        go_wp2
        go_ret
        exact ⟨by rw [HFIN.out]; rfl, HE.out.trans hX⟩
    · obtain rfl : k = p.length := by omega
      have HFIN := hid (recsame_eq (l := p.map (·.1)) (m := q.map (·.1)) (by
       have h1 := HT.out
       rw [List.take_of_length_le (by simp), List.take_of_length_le (by simp [HLEN.out])] at h1
       exact h1))
      go_wp2
      go_ret
      exact ⟨by rw [HFIN.out]; rfl, HE.out⟩
 · have hne : ((p.length : Int) != (q.length : Int)) = true := by simp; omega
   have HFIN := hid (recsame_ne (l := p.map (·.1)) (m := q.map (·.1)) (fun e => hlen (by have := congrArg List.length e; simpa using this)))
   clear hlen
   go_enter Tryd.func15, Tryd.ntmps15
   go_wp2
   go_ret
   exact ⟨by rw [HFIN.out]; rfl, Ext.refl _⟩

section
variable {P : Program}
theorem wpList_append_row3 {ops : Array Oper} {rest : List Oper} {o : Oper} {a : Act} {w : World} {Q : Exit → Act → World → Prop} (hgd : o.guard = none) (s x : Operand) (t : Nat)
 (ho : o.op = .call { callee := .builtin .append, args := #[s, x], argTypes := #[t, t] }) (base T : Nat) (ht : P.underlying t = some (.slice T))
 (hi : (P.info? T).map (fun i => (i.zero, i.size, i.bytes)) = some (some (.agg #[.int .i64 0, .slice none 0 0, .string ⟨#[]⟩]), 3, 48))
 {v : Value} {n : Nat} {xs : List Value} (hs : a.eval s = v) (hown : w.ownsRow base T 3 v n xs) {g : Nat} {p q r : Value} (hx : a.eval x = .slice (some ⟨g, 0, none⟩) 1 1)
 {ty : TypeId} {fr : Nat × Nat} (hblk : w.heap[g]? = some (.cells #[p, q, r] ty fr)) (hp : p.oneCell' = true) (hq : q.oneCell' = true) (hr : r.oneCell' = true)
 (hb : (n + 1) * 48 ≤ 140737488355328) (hbase : base ≤ w.heap.size)
 (h : ∀ ao cap w', w'.ownsRow base T 3 (.slice ao (n + 1) cap) (n + 1) (xs ++ [p, q, r]) → w.grownBy w' v.ownBlock → Below base w w' → wpList P ops Q rest (a.put o.dst (.slice ao (n + 1) cap)) w') :
 wpList P ops Q (o :: rest) a w := by
 have hsl : Sl w 3 (.slice (some ⟨g, 0, none⟩) 1 1) 1 [p, q, r] := by
  refine ⟨rfl, some ⟨g, 0, none⟩, 1, rfl, Nat.le_refl _, by simp [maxLen], (fun h => by cases h), fun a ha j u hu => ?_⟩
  cases ha
  have e1 : (⟨g, 0, none⟩ : Addr).add j = ⟨g, j, none⟩ := by unfold Addr.add; split <;> simp_all
  rw [e1, cell_of_row _ _ _ _ _ _ hblk]
  simpa using hu
 refine wpList_append_sl hgd s x t ho base T ht hi rfl (by decide) hs hown hx hsl (by
  intro y' hy'
  simp at hy'
  rcases hy' with rfl | rfl | rfl
  · exact hp
  · exact hq
  · exact hr) (by simp [maxLen]; omega) (by omega) hbase fun ao cap w' k1 k2 k3 => h ao cap w' k1 k2 k3
end

end Go.Proofs.YtpbmbjdiilnaeaaDoor

set_option linter.unusedSimpArgs false
set_option linter.unusedVariables false
set_option maxRecDepth 100000
namespace Go.Proofs.YtpbmbjdiilnaeaaDoor
open Go Go.RowKit Go.Tum Go.ChangeMaps Go.Sort Go.Tum.Vint Go.Tum.Crc

def snA : Snp := ⟨0, 0, 0, 0, 0, [], [], [], 4, 5⟩
def rcA : List Rc := [⟨13, [0, 0, 0, 0, 0, 4, 5], []⟩, ⟨17, [1], []⟩]
def itN : Itm := ⟨0, -1, 0, 0, 0, 0, 0, 0, 0, 0⟩
def snN : Snp := ⟨0, 0, 0, 0, 0, [itN], [], [], 0, 0⟩
def it3 : Itm := ⟨0, 0, 0, 0, 0, 0, 0, 3, 0, 0⟩
def it1 : Itm := ⟨0, 0, 0, 0, 0, 0, 0, 1, 0, 0⟩
theorem rightA : rightS snA = true := by rfl
theorem rightN : rightS snN = false := by rfl
theorem saveA : saveR snA = rcA := by rfl
theorem loadA : loadR rcA = some snA := by rfl
theorem load0 : loadR [] = none := by rfl
theorem segs31 : segsOf [it3, it1] = [1, 3] := by
 have h : ([3, 1] : List UInt64).mergeSort (fun x y => decide (x ≤ y)) = [1, 3] := by
  simp [List.mergeSort, List.MergeSort.Internal.splitInTwo, List.merge]
 show ddU (([3, 1] : List UInt64).mergeSort (fun x y => decide (x ≤ y))) = [1, 3]
 rw [h]; rfl
theorem blk_slk {w : World} {g n k : Nat} {cs : List Value} {ty : TypeId} {fr : Nat × Nat} (h : w.heap[g]? = some (.cells cs.toArray ty fr)) (hn : cs.length = k * n) (hk : k ≤ maxLen) : Sl w n (.slice (some ⟨g, 0, none⟩) k k) k cs := by
 refine ⟨hn, some ⟨g, 0, none⟩, k, rfl, Nat.le_refl _, hk, (fun h => by cases h), fun a ha j u hu => ?_⟩
 cases ha
 have e1 : (⟨g, 0, none⟩ : Addr).add j = ⟨g, j, none⟩ := by unfold Addr.add; split <;> simp_all
 rw [e1, cell_of_row _ _ _ _ _ _ h]
 simpa using hu
theorem snpA_c (io do_ co : Option Addr) (ic dc cc : Nat) : snpC snA (.slice io snA.items.length ic) (.slice do_ snA.dead.length dc) (.slice co snA.curs.length cc) = #[.int .u64 0, .int .u64 0, .int .u64 0, .int .u64 0, .int .u64 0, .slice io 0 ic, .slice do_ 0 dc, .slice co 0 cc, .int .u64 4, .int .u64 5] := rfl
theorem rcs_nil (w : World) : Rcs w (.slice none 0 0) [] := ⟨[], rfl, RowsOf.nil _ _ _, fun p hp => absurd hp (by simp)⟩
set_option maxHeartbeats 4000000 in
theorem awake13_any (w : World) (ht : Tab w) : Calls Tryd.prog 6 #[] w fun e w' => e = .returned (.bool true) ∧ Ext w w' := by
 have HT := hid ht
 have hc : Calls Tryd.prog 10 #[.agg #[.int .u64 0, .int .u64 0, .int .u64 0, .int .u64 0, .int .u64 0, .slice none 0 0, .slice none 0 0, .slice none 0 0, .int .u64 4, .int .u64 5]] w fun e w' => (∃ v, e = .returned (.tuple #[v, .int .i64 0]) ∧ RcsO w' w.heap.size 62 v rcA) ∧ Ext w w' := (save_any snA (.slice none 0 0) (.slice none 0 0) (.slice none 0 0) w ⟨RowsOf.nil _ _ _, RowsOf.nil _ _ _, RowsOf.nil _ _ _⟩ (by decide)).mono fun e w' h => by
  rw [rightA, saveA, if_pos (show true = true from rfl)] at h
  exact h
 have HC := hid hc
 clear ht hc
 go_enter Tryd.func6, Tryd.ntmps6
 go_wp2_with fail
 refine HC.out.mono ?_
 rintro e w1 ⟨⟨v1, rfl, ho⟩, hx⟩
 obtain ⟨o1, c1, rfl⟩ := ho.open
 rw [show rcA.length = 2 from rfl] at ho ⊢
 have HO := hid ho
 have HE1 := hid hx
 clear ho hx HC
 have HC := hid (load_any _ rcA w1 HO.out.rcs (by decide) (HT.out.ext HE1.out))
 go_wp2_with fail
 refine HC.out.mono ?_
 rintro e w2 hp
 unfold LdP at hp
 rw [loadA] at hp
 obtain ⟨⟨vi, vd, vc, rfl, hin⟩, hx⟩ := hp
 obtain ⟨io, ic, rfl, -⟩ := hin.it.open
 obtain ⟨do_, dc, rfl, -⟩ := hin.dd.open
 obtain ⟨co, cc, rfl, -⟩ := hin.cu.open
 have HE2 := hid (HE1.out.trans hx)
 have HO2 := hid (HO.out.ext hx)
 clear hin hx HC HO HE1
 obtain ⟨W3, hW3⟩ : ∃ W, w2.alloc (.cells #[.int .u64 0, .int .u64 0, .int .u64 0, .int .u64 0, .int .u64 0, .slice io 0 ic, .slice do_ 0 dc, .slice co 0 cc, .int .u64 4, .int .u64 5] 29 (0, 0)) = W := ⟨_, rfl⟩
 have hE3 := Ext.alloc w2 (.cells #[.int .u64 0, .int .u64 0, .int .u64 0, .int .u64 0, .int .u64 0, .slice io 0 ic, .slice do_ 0 dc, .slice co 0 cc, .int .u64 4, .int .u64 5] 29 (0, 0))
 have hb3 := heap_alloc_new w2 (.cells #[.int .u64 0, .int .u64 0, .int .u64 0, .int .u64 0, .int .u64 0, .slice io 0 ic, .slice do_ 0 dc, .slice co 0 cc, .int .u64 4, .int .u64 5] 29 (0, 0))
 rw [hW3] at hE3 hb3
 have HB3 := hid hb3
 have HE3 := hid (HE2.out.trans hE3)
 have HO3 := hid (HO2.out.ext hE3)
 clear hE3 hb3 HE2 HO2
 have HC := hid (load_any (.slice none 0 0) [] W3 (rcs_nil W3) (by decide) (HT.out.ext HE3.out))
 rw [snpA_c]
 go_wp2_with rw [hW3]
 refine HC.out.mono ?_
 rintro e w4 hp
 unfold LdP at hp
 rw [load0] at hp
 obtain ⟨rfl, hx⟩ := hp
 have HE4 := hid (HE3.out.trans hx)
 have HO4 := hid (HO3.out.ext hx)
 have HB4 := hid (hx.obj HB3.out)
 clear hx HC HO3 HE3 HB3 hW3
 have hE5 := Ext.alloc w4 (.cells #[.int .u64 0, .int .u64 0, .int .u64 0, .int .u64 0, .int .u64 0, .slice none 0 0, .slice none 0 0, .slice none 0 0, .int .u64 0, .int .u64 0] 29 (0, 0))
 obtain ⟨W6, hW6⟩ : ∃ W, (w4.alloc (.cells #[.int .u64 0, .int .u64 0, .int .u64 0, .int .u64 0, .int .u64 0, .slice none 0 0, .slice none 0 0, .slice none 0 0, .int .u64 0, .int .u64 0] 29 (0, 0))).alloc (.cells #[.int .u64 0, .int .i64 (-1), .int .i64 0, .int .i64 0, .int .u64 0, .int .u64 0, .int .u64 0, .int .u64 0, .int .u64 0, .int .i64 0] 69 (0, 0)) = W := ⟨_, rfl⟩
 have hE6 := Ext.alloc (w4.alloc (.cells #[.int .u64 0, .int .u64 0, .int .u64 0, .int .u64 0, .int .u64 0, .slice none 0 0, .slice none 0 0, .slice none 0 0, .int .u64 0, .int .u64 0] 29 (0, 0))) (.cells #[.int .u64 0, .int .i64 (-1), .int .i64 0, .int .i64 0, .int .u64 0, .int .u64 0, .int .u64 0, .int .u64 0, .int .u64 0, .int .i64 0] 69 (0, 0))
 have hb6 := heap_alloc_new (w4.alloc (.cells #[.int .u64 0, .int .u64 0, .int .u64 0, .int .u64 0, .int .u64 0, .slice none 0 0, .slice none 0 0, .slice none 0 0, .int .u64 0, .int .u64 0] 29 (0, 0))) (.cells #[.int .u64 0, .int .i64 (-1), .int .i64 0, .int .i64 0, .int .u64 0, .int .u64 0, .int .u64 0, .int .u64 0, .int .u64 0, .int .i64 0] 69 (0, 0))
 rw [hW6] at hE6 hb6
 rw [World.size_alloc] at hb6
 have hin : SnpIn W6 snN (.slice (some ⟨(w4.heap.size + 1), 0, none⟩) 1 1) (.slice none 0 0) (.slice none 0 0) := ⟨⟨fun _ _ => rfl, blk_slk (cs := itcells itN) hb6 rfl (by decide)⟩, RowsOf.nil _ _ _, RowsOf.nil _ _ _⟩
 have hc : Calls Tryd.prog 10 #[.agg #[.int .u64 0, .int .u64 0, .int .u64 0, .int .u64 0, .int .u64 0, .slice (some ⟨(w4.heap.size + 1), 0, none⟩) 1 1, .slice none 0 0, .slice none 0 0, .int .u64 0, .int .u64 0]] W6 fun e w' => e = .returned (.tuple #[.slice none 0 0, .int .i64 1]) ∧ Ext W6 w' := (save_any snN _ _ _ W6 hin (by decide)).mono fun e w' h => by
  rw [rightN, if_neg (show ¬ (false = true) by decide)] at h
  exact h
 have HC := hid hc
 have HE6 := hid (HE4.out.trans (hE5.trans hE6))
 have HO6 := hid (HO4.out.ext (hE5.trans hE6))
 have HB6 := hid ((hE5.trans hE6).obj HB4.out)
 clear hc hin hb6 hE5 hE6 HE4 HO4 HB4
 go_wp2_with (rw [hW6])
 refine HC.out.mono ?_
 rintro e w7 ⟨rfl, hx⟩
 have HE7 := hid (HE6.out.trans hx)
 have HO7 := hid (HO6.out.ext hx)
 have HB7 := hid (hx.obj HB6.out)
 clear hx HC HE6 HO6 HB6 hW6
 have HC := hid (owns13_any _ rcA w7 HO7.out.rcs (by decide))
 go_wp2_with fail
 refine HC.out.mono ?_
 rintro e w8 ⟨⟨u8, rfl, hu⟩, hx⟩
 have HU8 := hid hu
 have HE8 := hid (HE7.out.trans hx)
 have HB8 := hid (hx.obj HB7.out)
 obtain ⟨uo, uc, rfl⟩ : ∃ ao cap, u8 = .slice ao 2 cap := by
  obtain ⟨m, hm, hr, -⟩ := hu
  obtain ⟨ao, cap, rfl, -⟩ := hr.open
  have : m.length = 2 := by have := congrArg List.length hm; simpa [rcA] using this
  rw [this]; exact ⟨_, _, rfl⟩
 clear hu hx HC HO7 HE7 HB7
 obtain ⟨W9, hW9⟩ : ∃ W, w8.alloc (.cells #[.int .u64 0, .int .u64 0, .int .u64 0, .int .u64 0, .int .u64 0, .int .u64 4, .int .u64 5] 22 (0, 0)) = W := ⟨_, rfl⟩
 have hE9 := Ext.alloc w8 (.cells #[.int .u64 0, .int .u64 0, .int .u64 0, .int .u64 0, .int .u64 0, .int .u64 4, .int .u64 5] 22 (0, 0))
 have hv9 : Vec uv (w8.alloc (.cells #[.int .u64 0, .int .u64 0, .int .u64 0, .int .u64 0, .int .u64 0, .int .u64 4, .int .u64 5] 22 (0, 0))) (.slice (some ⟨w8.heap.size, 0, none⟩) 7 7) [0, 0, 0, 0, 0, 4, 5] := (owv_lit w8 0 22 [0, 0, 0, 0, 0, 4, 5] _ rfl 7 rfl (Nat.zero_le _) (by simp [maxLen])).vec
 rw [hW9] at hE9 hv9
 obtain ⟨W10, hW10⟩ : ∃ W, W9.alloc (.cells #[.int .u64 1] 22 (0, 0)) = W := ⟨_, rfl⟩
 have hE10 := Ext.alloc W9 (.cells #[.int .u64 1] 22 (0, 0))
 have hv10 : Vec uv (W9.alloc (.cells #[.int .u64 1] 22 (0, 0))) (.slice (some ⟨W9.heap.size, 0, none⟩) 1 1) [1] := (owv_lit W9 0 22 [1] _ rfl 1 rfl (Nat.zero_le _) (by simp [maxLen])).vec
 rw [hW10] at hE10 hv10
 obtain ⟨W11, hW11⟩ : ∃ W, W10.alloc (.cells #[.int .i64 13, .slice (some ⟨w8.heap.size, 0, none⟩) 7 7, .string ⟨#[]⟩, .int .i64 17, .slice (some ⟨W9.heap.size, 0, none⟩) 1 1, .string ⟨#[]⟩] 71 (0, 0)) = W := ⟨_, rfl⟩
 have hE11 := Ext.alloc W10 (.cells #[.int .i64 13, .slice (some ⟨w8.heap.size, 0, none⟩) 7 7, .string ⟨#[]⟩, .int .i64 17, .slice (some ⟨W9.heap.size, 0, none⟩) 1 1, .string ⟨#[]⟩] 71 (0, 0))
 have hb11 := heap_alloc_new W10 (.cells #[.int .i64 13, .slice (some ⟨w8.heap.size, 0, none⟩) 7 7, .string ⟨#[]⟩, .int .i64 17, .slice (some ⟨W9.heap.size, 0, none⟩) 1 1, .string ⟨#[]⟩] 71 (0, 0))
 rw [hW11] at hE11 hb11
 have hr11 : Rcs W11 (.slice (some ⟨W10.heap.size, 0, none⟩) 2 2) rcA := ⟨[(⟨13, [0, 0, 0, 0, 0, 4, 5], []⟩, .slice (some ⟨w8.heap.size, 0, none⟩) 7 7), (⟨17, [1], []⟩, .slice (some ⟨W9.heap.size, 0, none⟩) 1 1)], rfl,
  ⟨fun _ _ => rfl, blk_slk (k := 2) (cs := [.int .i64 13, .slice (some ⟨w8.heap.size, 0, none⟩) 7 7, .string ⟨#[]⟩, .int .i64 17, .slice (some ⟨W9.heap.size, 0, none⟩) 1 1, .string ⟨#[]⟩]) hb11 rfl (by decide)⟩, fun p hp => by
   rcases List.mem_cons.1 hp with rfl | hp
   · exact hv9.ext (hE10.trans hE11)
   · rcases List.mem_singleton.1 hp with rfl
     exact hv10.ext hE11⟩
 have HC := hid (rsames5_any _ _ rcA rcA W11 (HU8.out.ext (hE9.trans (hE10.trans hE11))) hr11 (by decide) (by decide))
 rw [recsame_eq rfl] at HC
 have HE11 := hid (HE8.out.trans (hE9.trans (hE10.trans hE11)))
 have HB11 := hid ((hE9.trans (hE10.trans hE11)).obj HB8.out)
 clear hE9 hE10 hE11 hv9 hv10 hb11 hr11 HU8 HE8 HB8
 go_wp2_with (first | rw [hW9] | rw [hW10] | rw [hW11])
 refine HC.out.mono ?_
 rintro e w12 ⟨rfl, hx⟩
 have HE12 := hid (HE11.out.trans hx)
 obtain ⟨⟨b0, b1, b2, b3, b4, b5, b6, b7, b8, b9⟩, -⟩ := blk10 (hx.obj HB11.out)
 clear hx HC HE11 HB11 hW9 hW10 hW11
 obtain ⟨W13, hW13⟩ : ∃ W, w12.alloc (.cells #[.int .u64 0, .int .i64 0, .int .i64 0, .int .i64 0, .int .u64 0, .int .u64 0, .int .u64 0, .int .u64 3, .int .u64 0, .int .i64 0, .int .u64 0, .int .i64 0, .int .i64 0, .int .i64 0, .int .u64 0, .int .u64 0, .int .u64 0, .int .u64 1, .int .u64 0, .int .i64 0] 69 (0, 0)) = W := ⟨_, rfl⟩
 have hE13 := Ext.alloc w12 (.cells #[.int .u64 0, .int .i64 0, .int .i64 0, .int .i64 0, .int .u64 0, .int .u64 0, .int .u64 0, .int .u64 3, .int .u64 0, .int .i64 0, .int .u64 0, .int .i64 0, .int .i64 0, .int .i64 0, .int .u64 0, .int .u64 0, .int .u64 0, .int .u64 1, .int .u64 0, .int .i64 0] 69 (0, 0))
 have hb13 := heap_alloc_new w12 (.cells #[.int .u64 0, .int .i64 0, .int .i64 0, .int .i64 0, .int .u64 0, .int .u64 0, .int .u64 0, .int .u64 3, .int .u64 0, .int .i64 0, .int .u64 0, .int .i64 0, .int .i64 0, .int .i64 0, .int .u64 0, .int .u64 0, .int .u64 0, .int .u64 1, .int .u64 0, .int .i64 0] 69 (0, 0))
 rw [hW13] at hE13 hb13
 have hc := segs_any _ [it3, it1] W13 ⟨fun _ _ => rfl, blk_slk (k := 2) (cs := itcells it3 ++ itcells it1) hb13 rfl (by decide)⟩ (by decide)
 rw [segs31] at hc
 have HC := hid hc
 have HE13 := hid (HE12.out.trans hE13)
 clear hc hE13 hb13 HE12
 go_wp2_with (rw [hW13])
 refine HC.out.mono ?_
 rintro e w14 ⟨⟨u, rfl, hu⟩, hx⟩
 obtain ⟨so, sc, rfl, -⟩ := hu.open
 have HE14 := hid (HE13.out.trans hx)
 have HU := hid hu
 clear hu hx HC HE13 hW13 b0 b1 b2 b3 b4 b5 b6 b7 b8 b9
 obtain ⟨W15, hW15⟩ : ∃ W, w14.alloc (.cells #[.int .u64 1, .int .u64 3] 22 (0, 0)) = W := ⟨_, rfl⟩
 have hE15 := Ext.alloc w14 (.cells #[.int .u64 1, .int .u64 3] 22 (0, 0))
 have hv15 : Vec uv (w14.alloc (.cells #[.int .u64 1, .int .u64 3] 22 (0, 0))) (.slice (some ⟨w14.heap.size, 0, none⟩) 2 2) [1, 3] := (owv_lit w14 0 22 [1, 3] _ rfl 2 rfl (Nat.zero_le _) (by simp [maxLen])).vec
 rw [hW15] at hE15 hv15
 have hc := rsame64_any _ _ [1, 3] [1, 3] W15 (HU.out.ext hE15) hv15
 rw [show (([1, 3] : List UInt64) == [1, 3]) = true from rfl] at hc
 have HC := hid hc
 have HE15 := hid (HE14.out.trans hE15)
 clear hc hE15 hv15 HE14 HU
 go_wp2_with (rw [hW15])
 refine HC.out.mono ?_
 rintro e w16 ⟨rfl, hx⟩
 have HE16 := hid (HE15.out.trans hx)
 clear hx HC HE15 hW15
 go_wp2
 go_returns
 exact ⟨rfl, HE16.out⟩
end Go.Proofs.YtpbmbjdiilnaeaaDoor

set_option linter.unusedSimpArgs false
set_option linter.unusedVariables false
set_option maxRecDepth 100000
namespace Go.Proofs.YtpbmbjdiilnaeaaDoor
open Go Go.RowKit Go.Tum Go.ChangeMaps Go.Sort Go.Tum.Vint Go.Tum.Crc

/-- A row of one kind, then another. -/
theorem twK_app {k : Int} : ∀ (a b : List Rc), (∀ r ∈ a, r.kind = k) → (∀ r, b.head? = some r → r.kind ≠ k) → twK k (a ++ b) = a ∧ dwK k (a ++ b) = b
 | [], [], _, _ => ⟨rfl, rfl⟩
 | [], x :: b, _, h => by
  have hx := h x rfl
  have e : (x.kind == k) = false := by simpa using hx
  exact ⟨by simp [twK, e], by simp [dwK, e]⟩
 | x :: a, b, h1, h2 => by
  have hx := h1 x (by simp)
  have ih := twK_app a b (fun r hr => h1 r (by simp [hr])) h2
  have e : (x.kind == k) = true := by simpa using hx
  unfold twK dwK at ih ⊢
  rw [List.cons_append, List.takeWhile_cons, List.dropWhile_cons, if_pos e, if_pos e, ih.1, ih.2]
  exact ⟨rfl, rfl⟩
theorem head_app {k : Int} {a b : List Rc} (h1 : ∀ r ∈ a, r.kind ≠ k) (h2 : ∀ r, b.head? = some r → r.kind ≠ k) : ∀ r, (a ++ b).head? = some r → r.kind ≠ k := by
 intro r hr
 cases a with
 | nil => exact h2 r hr
 | cons x a => simp at hr; subst hr; exact h1 _ (by simp)
theorem twK_split (k : Int) (l : List Rc) : l = twK k l ++ dwK k l := (List.takeWhile_append_dropWhile).symm
theorem twK_none {k : Int} {l : List Rc} (h : ∀ r ∈ l, r.kind ≠ k) : twK k l = [] := by
 cases l with
 | nil => rfl
 | cons x l =>
  have : (x.kind == k) = false := by simpa using h x (by simp)
  simp [twK, this]
/-- Five rows, each of its kind. -/
structure Five (l : List Rc) (b li ro cu fi : List Rc) : Prop where
 eq : l = b ++ (li ++ (ro ++ (cu ++ fi)))
 hb : ∀ r ∈ b, r.kind = 13
 hl : ∀ r ∈ li, r.kind = 14
 hr : ∀ r ∈ ro, r.kind = 15
 hc : ∀ r ∈ cu, r.kind = 16
 hf : ∀ r ∈ fi, r.kind = 17
theorem hd_of {k j : Int} {a : List Rc} (h : ∀ r ∈ a, r.kind = j) (hne : j ≠ k) : ∀ r ∈ a, r.kind ≠ k := fun r hr => by rw [h r hr]; exact hne
theorem hd_nil {k : Int} : ∀ r, ([] : List Rc).head? = some r → r.kind ≠ k := fun r h => by cases h
theorem Five.loadR {l b li ro cu fi : List Rc} (h : Five l b li ro cu fi) (hall : l.all rightB = true) :
 loadR l = if b.length ≠ 1 ∨ fi.length ≠ 1 ∨ nAt (fi.getD 0 r0) 0 ≠ UInt64.ofNat (l.length - 1) then none else if rightS (snpOf (b.getD 0 r0) li ro cu) then some (snpOf (b.getD 0 r0) li ro cu) else none := by
 have t1 := twK_app b (li ++ (ro ++ (cu ++ fi))) h.hb (head_app (k := 13) (hd_of h.hl (by decide)) (head_app (hd_of h.hr (by decide)) (head_app (hd_of h.hc (by decide)) (fun r hr => hd_of h.hf (by decide) r (List.mem_of_mem_head? hr)))))
 have t2 := twK_app li (ro ++ (cu ++ fi)) h.hl (head_app (k := 14) (hd_of h.hr (by decide)) (head_app (hd_of h.hc (by decide)) (fun r hr => hd_of h.hf (by decide) r (List.mem_of_mem_head? hr))))
 have t3 := twK_app ro (cu ++ fi) h.hr (head_app (k := 15) (hd_of h.hc (by decide)) (fun r hr => hd_of h.hf (by decide) r (List.mem_of_mem_head? hr)))
 have t4 := twK_app cu fi h.hc (fun r hr => hd_of (k := 16) h.hf (by decide) r (List.mem_of_mem_head? hr))
 have t5 := twK_app fi [] h.hf hd_nil
 rw [List.append_nil] at t5
 rw [← h.eq] at t1
 unfold Go.Proofs.YtpbmbjdiilnaeaaDoor.loadR
 rw [if_neg (by rw [hall]; decide)]
 simp only [t1.1, t1.2, t2.1, t2.2, t3.1, t3.2, t4.1, t4.2, t5.1, t5.2, List.length_nil, Nat.lt_irrefl, false_or]
theorem five_body (s : Snp) (k : Nat) (hk : k ≤ 1) : Five (bodyR s ++ List.replicate k ⟨17, [UInt64.ofNat (bodyR s).length], []⟩) [baseRc s] (s.items.map liveRc) (s.dead.map deadRc) (s.curs.map curRc) (List.replicate k ⟨17, [UInt64.ofNat (bodyR s).length], []⟩) := by
 refine ⟨by simp [bodyR], ?_, ?_, ?_, ?_, ?_⟩
 · intro r hr; simp at hr; subst hr; rfl
 · intro r hr; obtain ⟨o, _, rfl⟩ := List.mem_map.1 hr; rfl
 · intro r hr; obtain ⟨o, _, rfl⟩ := List.mem_map.1 hr; rfl
 · intro r hr; obtain ⟨o, _, rfl⟩ := List.mem_map.1 hr; rfl
 · intro r hr; rw [List.mem_replicate] at hr; rw [hr.2]
theorem okN_back {n : Int} (h : okN n = true) : IntKind.i64.wrap ((u64i n).toNat : Int) = n := by
 obtain ⟨a, h1, h2, h3⟩ := okN_u h
 rw [h2, h1]
 have := IntWalk.i64_in n (by omega)
 exact this
theorem live_back {o : Itm} (h : okIt o = true) : liveOf (liveRc o) = o := by
 unfold okIt at h
 simp only [Bool.and_eq_true] at h
 obtain ⟨id, lane, st, cnt, due, tok, turn, seg, ps, size⟩ := o
 show itmOf id (u64i lane) (u64i st) (u64i cnt) due tok turn seg ps (u64i size) = _
 unfold itmOf
 rw [okN_back h.1, okN_back h.2.1, okN_back h.2.2.1, okN_back h.2.2.2]
theorem right_parts {s : Snp} (h : rightS s = true) : (∀ o ∈ s.items, okIt o = true) ∧ ∀ c ∈ s.curs, c.1.length ≤ 64 := by
 unfold rightS at h
 rw [Bool.and_eq_true, List.all_eq_true, List.all_eq_true] at h
 exact ⟨h.1, fun c hc => by simpa using h.2 c hc⟩
theorem snp_back {s : Snp} (h : rightS s = true) : snpOf (baseRc s) (s.items.map liveRc) (s.dead.map deadRc) (s.curs.map curRc) = s := by
 obtain ⟨h1, h2⟩ := right_parts h
 obtain ⟨now, next, lea, trn, dth, items, dead, curs, sg, ps⟩ := s
 have e1 : (items.map liveRc).map liveOf = items := by
  rw [List.map_map]
  exact (List.map_congr_left (g := id) fun o ho => live_back (h1 o ho)).trans (List.map_id _)
 have e2 : (dead.map deadRc).map deadOf = dead := by
  rw [List.map_map]
  exact (List.map_congr_left (g := id) fun o ho => rfl).trans (List.map_id _)
 have e3 : (curs.map curRc).map curOf = curs := by
  rw [List.map_map]
  exact (List.map_congr_left (g := id) fun o ho => rfl).trans (List.map_id _)
 show Snp.mk now next lea trn dth ((items.map liveRc).map liveOf) ((dead.map deadRc).map deadOf) ((curs.map curRc).map curOf) sg ps = _
 rw [e1, e2, e3]
theorem save_right {s : Snp} (h : rightS s = true) : ∀ r ∈ saveR s, rightB r = true := by
 obtain ⟨h1, h2⟩ := right_parts h
 intro r hr
 unfold saveR bodyR at hr
 simp only [List.mem_append, List.mem_singleton, List.mem_map] at hr
 rcases hr with ((((rfl | ⟨o, ho, rfl⟩) | ⟨o, ho, rfl⟩) | ⟨c, hc, rfl⟩) | rfl)
 · rfl
 · rfl
 · rfl
 · have := h2 c hc
   simp [rightB, curRc, knownB, many, manyT, textB, this]
 · rfl
theorem load_save {s : Snp} (h : rightS s = true) : loadR (saveR s) = some s := by
 have h5 := five_body s 1 (Nat.le_refl _)
 have hall : (saveR s).all rightB = true := List.all_eq_true.2 (save_right h)
 have := Five.loadR (l := saveR s) h5 hall
 rw [this, if_neg (by
  rintro (h | h | h)
  · exact h rfl
  · exact h rfl
  · refine h ?_
    show UInt64.ofNat (bodyR s).length = _
    congr 1
    unfold saveR
    rw [List.length_append]; rfl)]
 show (if rightS (snpOf (baseRc s) (s.items.map liveRc) (s.dead.map deadRc) (s.curs.map curRc)) = true then some (snpOf (baseRc s) (s.items.map liveRc) (s.dead.map deadRc) (s.curs.map curRc)) else none) = _
 rw [snp_back h, if_pos h]
theorem u64i_back {a : UInt64} (h : okN (IntKind.i64.wrap (a.toNat : Int)) = true) : u64i (IntKind.i64.wrap (a.toNat : Int)) = a := by
 have ha := a.toNat_lt
 have hw : IntKind.i64.wrap (a.toNat : Int) = (a.toNat : Int) ∨ IntKind.i64.wrap (a.toNat : Int) < 0 := by
  rw [IntKind.wrap_i64]
  omega
 rcases hw with e | e
 · rw [e]; unfold u64i; simp
 · rw [okN_lo e] at h; cases h
theorem rec_text {r : Rc} (h : rightB r = true) (h1 : r.kind ≠ 10) (h2 : r.kind ≠ 11) (h3 : r.kind ≠ 16) : r.text = [] := by
 unfold rightB textB at h
 rw [if_neg (by rintro (h | h | h) <;> contradiction)] at h
 simp only [Bool.and_eq_true, decide_eq_true_eq] at h
 exact List.eq_nil_of_length_eq_zero h.2
theorem live_rec {r : Rc} (h : rightB r = true) (hk : r.kind = 14) (ho : okIt (liveOf r) = true) : liveRc (liveOf r) = r := by
 have ht := rec_text h (by rw [hk]; decide) (by rw [hk]; decide) (by rw [hk]; decide)
 have hn := right_len h
 rw [hk] at hn
 obtain ⟨kd, ns, tx⟩ := r
 dsimp only at ht hn hk
 subst ht hk
 obtain ⟨a0, a1, a2, a3, a4, a5, a6, a7, a8, a9, rfl⟩ := len10_ex (l := ns) hn
 have ho' : okIt (itmOf a0 a1 a2 a3 a4 a5 a6 a7 a8 a9) = true := ho
 unfold okIt itmOf at ho'
 simp only [Bool.and_eq_true] at ho'
 show liveRc (itmOf a0 a1 a2 a3 a4 a5 a6 a7 a8 a9) = _
 unfold liveRc itmOf
 dsimp only
 rw [u64i_back ho'.1, u64i_back ho'.2.1, u64i_back ho'.2.2.1, u64i_back ho'.2.2.2]
theorem dead_rec {r : Rc} (h : rightB r = true) (hk : r.kind = 15) : deadRc (deadOf r) = r := by
 have ht := rec_text h (by rw [hk]; decide) (by rw [hk]; decide) (by rw [hk]; decide)
 have hn := right_len h
 rw [hk] at hn
 obtain ⟨kd, ns, tx⟩ := r
 dsimp only at ht hn hk
 subst ht hk
 obtain ⟨a0, a1, rfl⟩ := len2_ex (l := ns) hn
 rfl
theorem cur_rec {r : Rc} (h : rightB r = true) (hk : r.kind = 16) : curRc (curOf r) = r := by
 have hn := right_len h
 rw [hk] at hn
 obtain ⟨kd, ns, tx⟩ := r
 dsimp only at hn hk
 subst hk
 obtain ⟨a0, rfl⟩ := len1_ex (l := ns) hn
 rfl
theorem base_rec {r : Rc} (h : rightB r = true) (hk : r.kind = 13) (l ro c : List Rc) : baseRc (snpOf r l ro c) = r := by
 have ht := rec_text h (by rw [hk]; decide) (by rw [hk]; decide) (by rw [hk]; decide)
 have hn := right_len h
 rw [hk] at hn
 obtain ⟨kd, ns, tx⟩ := r
 dsimp only at ht hn hk
 subst ht hk
 obtain ⟨a0, a1, a2, a3, a4, a5, a6, rfl⟩ := len7_ex (l := ns) hn
 rfl
theorem map_back {α : Type} {f : Rc → α} {g : α → Rc} {l : List Rc} (h : ∀ r ∈ l, g (f r) = r) : (l.map f).map g = l := by
 rw [List.map_map]
 exact (List.map_congr_left (g := id) fun r hr => h r hr).trans (List.map_id _)
theorem load_some {l : List Rc} {u : Snp} (h : loadR l = some u) : rightS u = true ∧ saveR u = l := by
 unfold loadR at h
 by_cases hall : l.all rightB = true
 case neg => rw [if_pos (by simpa using hall)] at h; cases h
 rw [if_neg (by rw [hall]; decide)] at h
 have HR := List.all_eq_true.1 hall
 dsimp only at h
 obtain ⟨L1, hL1⟩ : ∃ x, dwK 13 l = x := ⟨_, rfl⟩
 obtain ⟨L2, hL2⟩ : ∃ x, dwK 14 L1 = x := ⟨_, rfl⟩
 obtain ⟨L3, hL3⟩ : ∃ x, dwK 15 L2 = x := ⟨_, rfl⟩
 obtain ⟨L4, hL4⟩ : ∃ x, dwK 16 L3 = x := ⟨_, rfl⟩
 obtain ⟨L5, hL5⟩ : ∃ x, dwK 17 L4 = x := ⟨_, rfl⟩
 rw [hL1, hL2, hL3, hL4, hL5] at h
 have s1 := twK_split 13 l
 have s2 := twK_split 14 L1
 have s3 := twK_split 15 L2
 have s4 := twK_split 16 L3
 have s5 := twK_split 17 L4
 rw [hL1] at s1
 rw [hL2] at s2
 rw [hL3] at s3
 rw [hL4] at s4
 rw [hL5] at s5
 have m1 : ∀ r ∈ L1, r ∈ l := fun r hr => by rw [← hL1] at hr; exact mem_dwK hr
 have m2 : ∀ r ∈ L2, r ∈ l := fun r hr => m1 r (by rw [← hL2] at hr; exact mem_dwK hr)
 have m3 : ∀ r ∈ L3, r ∈ l := fun r hr => m2 r (by rw [← hL3] at hr; exact mem_dwK hr)
 have m4 : ∀ r ∈ L4, r ∈ l := fun r hr => m3 r (by rw [← hL4] at hr; exact mem_dwK hr)
 by_cases hc : (twK 13 l).length ≠ 1 ∨ (twK 17 L4).length ≠ 1 ∨ 0 < L5.length ∨ nAt ((twK 17 L4).getD 0 r0) 0 ≠ UInt64.ofNat (l.length - 1)
 case pos => rw [if_pos hc] at h; cases h
 rw [if_neg hc] at h
 have c1 : (twK 13 l).length = 1 := by
  rcases Nat.decEq (twK 13 l).length 1 with k | k
  · exact absurd (.inl k) hc
  · exact k
 have c2 : (twK 17 L4).length = 1 := by
  rcases Nat.decEq (twK 17 L4).length 1 with k | k
  · exact absurd (.inr (.inl k)) hc
  · exact k
 have c3 : L5 = [] := by
  cases L5 with
  | nil => rfl
  | cons x L => exact absurd (.inr (.inr (.inl (by simp)))) hc
 have c4 : nAt ((twK 17 L4).getD 0 r0) 0 = UInt64.ofNat (l.length - 1) := by
  by_cases k : nAt ((twK 17 L4).getD 0 r0) 0 = UInt64.ofNat (l.length - 1)
  · exact k
  · exact absurd (.inr (.inr (.inr k))) hc
 subst c3
 obtain ⟨b, hb⟩ := List.length_eq_one_iff.1 c1
 obtain ⟨e, he⟩ := List.length_eq_one_iff.1 c2
 rw [hb] at h s1
 rw [he] at c4 s5
 have kb := mem_twK (k := 13) (l := l) (r := b) (by rw [hb]; simp)
 have ke := mem_twK (k := 17) (l := L4) (r := e) (by rw [he]; simp)
 have h' : (if rightS (snpOf b (twK 14 L1) (twK 15 L2) (twK 16 L3)) = true then some (snpOf b (twK 14 L1) (twK 15 L2) (twK 16 L3)) else none) = some u := h
 by_cases hr : rightS (snpOf b (twK 14 L1) (twK 15 L2) (twK 16 L3)) = true
 case neg => rw [if_neg hr] at h'; cases h'
 rw [if_pos hr] at h'
 have hu := Option.some.inj h'
 refine ⟨by rw [← hu]; exact hr, ?_⟩
 obtain ⟨p1, p2⟩ := right_parts hr
 have ebody : bodyR u = [b] ++ twK 14 L1 ++ twK 15 L2 ++ twK 16 L3 := by
  rw [← hu]
  unfold bodyR
  rw [base_rec (HR _ kb.2) kb.1]
  have q1 : ((snpOf b (twK 14 L1) (twK 15 L2) (twK 16 L3)).items).map liveRc = twK 14 L1 := map_back (f := liveOf) fun r hr => live_rec (HR _ (m1 _ (mem_twK hr).2)) (mem_twK hr).1 (p1 _ (List.mem_map.2 ⟨r, hr, rfl⟩))
  have q2 : ((snpOf b (twK 14 L1) (twK 15 L2) (twK 16 L3)).dead).map deadRc = twK 15 L2 := map_back (f := deadOf) fun r hr => dead_rec (HR _ (m2 _ (mem_twK hr).2)) (mem_twK hr).1
  have q3 : ((snpOf b (twK 14 L1) (twK 15 L2) (twK 16 L3)).curs).map curRc = twK 16 L3 := map_back (f := curOf) fun r hr => cur_rec (HR _ (m3 _ (mem_twK hr).2)) (mem_twK hr).1
  rw [q1, q2, q3]
 have el : l = bodyR u ++ [e] := by
  rw [ebody]
  simp only [List.append_assoc]
  rw [← List.append_nil [e], ← s5, ← s4, ← s3, ← s2, ← s1]
 have ee : e = ⟨17, [UInt64.ofNat (bodyR u).length], []⟩ := by
  have hre := HR _ (m4 _ ke.2)
  have ht := rec_text hre (by rw [ke.1]; decide) (by rw [ke.1]; decide) (by rw [ke.1]; decide)
  have hn := right_len hre
  rw [ke.1] at hn
  have hlen : l.length - 1 = (bodyR u).length := by rw [el]; simp
  rw [hlen] at c4
  obtain ⟨kd, ns, tx⟩ := e
  obtain ⟨a0, h0⟩ := len1_ex (l := ns) hn
  have hk : kd = 17 := ke.1
  have ht' : tx = [] := ht
  subst h0 hk ht'
  have : a0 = UInt64.ofNat (bodyR u).length := c4
  rw [this]
 rw [el, ee]; rfl
end Go.Proofs.YtpbmbjdiilnaeaaDoor

set_option linter.unusedSimpArgs false
set_option linter.unusedVariables false
set_option maxRecDepth 100000
namespace Go.Proofs.YtpbmbjdiilnaeaaDoor
open Go Go.RowKit Go.Tum Go.ChangeMaps Go.Sort Go.Tum.Vint Go.Tum.Crc

theorem infoRIt : (Tryd.prog.info? 87).map (fun i => (i.zero, i.size, i.bytes)) = some (some (.agg #[.int .u64 0, .int .i64 0, .int .i64 0, .int .i64 0, .int .u64 0, .int .u64 0, .int .u64 0, .int .u64 0, .int .u64 0, .int .i64 0]), 10, 80) := by kernel_rfl
theorem infoRDd : (Tryd.prog.info? 76).map (fun i => (i.zero, i.size, i.bytes)) = some (some (.agg #[.int .u64 0, .int .u64 0]), 2, 16) := by kernel_rfl
theorem infoRCu : (Tryd.prog.info? 73).map (fun i => (i.zero, i.size, i.bytes)) = some (some (.agg #[.string ⟨#[]⟩, .int .u64 0]), 2, 24) := by kernel_rfl
theorem its_of_own {w : World} {B T n : Nat} {v : Value} {l : List Itm} (h : w.ownsRow B T 10 v n (l.flatMap itcells)) (hn : l.length = n) : Its w v l := by
 subst hn
 exact ⟨fun _ _ => rfl, Sl.of_owns h⟩
set_option maxHeartbeats 4000000 in
theorem items13_any (v : Value) (l : List Itm) (w : World) (h : Its w v l) (hl : l.length * 80 ≤ 140737488355328) :
 Calls Tryd.prog 20 #[v] w fun e w' => (∃ u, e = .returned u ∧ w'.ownsRow w.heap.size 87 10 u l.length (l.flatMap itcells)) ∧ Ext w w' := by
 obtain ⟨ao, cap, rfl, hle, hmx, hnn, hcell⟩ := h.open
 have HC := hid hcell
 have HNN := hid hnn
 obtain ⟨n, hn⟩ : ∃ n, l.length = n := ⟨_, rfl⟩
 rw [hn] at hle hl
 rw [hn]
 have HN := hid hn
 have HL := hid hl
 clear h hcell hnn hn hl
 go_enter Tryd.func20, Tryd.ntmps20
 go_wp2
 go_loopw [3, 8] (fun sv i wr => ∃ k : Nat, k ≤ n ∧ i = .int .i64 (k : Int) ∧ Hid (wr.ownsRow w.heap.size 87 10 sv k ((l.take k).flatMap itcells)) ∧ Hid (Ext w wr)) (fun _ i _ => n - (intOf i).toNat)
 case atStart => exact ⟨0, Nat.zero_le _, rfl, hid (World.ownsRow_nil _ _ _ _), hid (Ext.refl _)⟩
 case round =>
  rename_i sv
  obtain ⟨k, hk, rfl, HO, HE⟩ := hrel
  by_cases hlt : k < n
  · have hkj : decide ((k : Int) < (n : Int)) = true := by simp; omega
    have hkj2 : (k : Int) < (n : Int) := by omega
    obtain ⟨g, rfl⟩ := HNN.out (by omega)
    have hltL : k < l.length := by rw [HN.out]; exact hlt
    have hc := fun j u h => HE.out.cell (HC.out g rfl k hltL j u h)
    have HTK : Hid ((l.take (k + 1)).flatMap itcells = (l.take k).flatMap itcells ++ itcells (l[k]'hltL)) := hid (by rw [List.take_succ_eq_append_getElem hltL, List.flatMap_append]; simp)
    obtain ⟨o, ho⟩ : ∃ o, l[k]'hltL = o := ⟨_, rfl⟩
    rw [ho] at hc HTK
    obtain ⟨id, lane, st, cnt, due, tok, turn, seg, ps, size⟩ := o
    obtain ⟨so, sc, rfl⟩ := owns_shape HO.out
    have k0 := cell_first (hc 0 _ rfl)
    have k1 := cell_next (hc 1 _ rfl) (by decide)
    have k2 := cell_next (hc 2 _ rfl) (by decide)
    have k3 := cell_next (hc 3 _ rfl) (by decide)
    have k4 := cell_next (hc 4 _ rfl) (by decide)
    have k5 := cell_next (hc 5 _ rfl) (by decide)
    have k6 := cell_next (hc 6 _ rfl) (by decide)
    have k7 := cell_next (hc 7 _ rfl) (by decide)
    have k8 := cell_next (hc 8 _ rfl) (by decide)
    have k9 := cell_next (hc 9 _ rfl) (by decide)
    obtain ⟨W1, hW1⟩ : ∃ W, wr.alloc (.cells #[uv id, .int .i64 lane, .int .i64 st, .int .i64 cnt, uv due, uv tok, uv turn, uv seg, uv ps, .int .i64 size] 69 (0, 0)) = W := ⟨_, rfl⟩
    have hE1 := Ext.alloc wr (.cells #[uv id, .int .i64 lane, .int .i64 st, .int .i64 cnt, uv due, uv tok, uv turn, uv seg, uv ps, .int .i64 size] 69 (0, 0))
    have hb1 := heap_alloc_new wr (.cells #[uv id, .int .i64 lane, .int .i64 st, .int .i64 cnt, uv due, uv tok, uv turn, uv seg, uv ps, .int .i64 size] 69 (0, 0))
    rw [hW1] at hE1 hb1
    obtain ⟨⟨m0, m1, m2, m3, m4, m5, m6, m7, m8, m9⟩, mf⟩ := blk10 hb1
    have hE2 := Ext.alloc W1 (.cells #[uv id, .int .i64 lane, .int .i64 st, .int .i64 cnt, uv due, uv tok, uv turn, uv seg, uv ps, .int .i64 size] 87)
    have hb2 := heap_alloc_new W1 (.cells #[uv id, .int .i64 lane, .int .i64 st, .int .i64 cnt, uv due, uv tok, uv turn, uv seg, uv ps, .int .i64 size] 87)
    have HB2 : Hid (Sl (W1.alloc (.cells #[uv id, .int .i64 lane, .int .i64 st, .int .i64 cnt, uv due, uv tok, uv turn, uv seg, uv ps, .int .i64 size] 87)) 10 (.slice (some ⟨W1.heap.size, 0, none⟩) 1 1) 1 (itcells ⟨id, lane, st, cnt, due, tok, turn, seg, ps, size⟩)) := hid (blk_sl13 (cs := itcells ⟨id, lane, st, cnt, due, tok, turn, seg, ps, size⟩) hb2 rfl)
    have HX2 := hid (HE.out.trans (hE1.trans hE2))
    have HO2 := hid ((hE1.trans hE2).owns HO.out)
    have HLK := hid hlt
    have hwk : IntKind.i64.wrap ((k : Int) + 1) = ((k + 1 : Nat) : Int) := i64v _ (by omega) (by omega)
    clear hc ho hE1 hb1 hE2 hb2 hltL hlt HO HE
    go_wp2_with (first | rw [hW1] | (at_builtin; go_loud (refine wpList_append_sl rfl (.tmp 12) (.tmp 24) 33 rfl w.heap.size 87 Tryd.underlying33 infoRIt rfl (by decide) rfl HO2.out rfl HB2.out (by intro y hy; simp [itcells] at hy; rcases hy with rfl | rfl | rfl | rfl | rfl | rfl | rfl | rfl | rfl | rfl <;> rfl) (by simp [maxLen]; have := HLK.out; have := HL.out; omega) (by have := HLK.out; have := HL.out; omega) HX2.out.size ?_; intro ao3 cap3 w3 hO3 hg3 hb3; have HO3 := hid hO3; have HE3 : Hid (Ext w w3) := hid (HX2.out.below hb3); clear hO3 hg3 hb3)))
    go_roundw
    case rel => exact ⟨k + 1, HLK.out, by first | rfl | go_num, hid (by rw [HTK.out]; exact HO3.out), HE3⟩
    case measure => have := HLK.out; simp [intOf]; omega
  have hkf : decide ((k : Int) < (n : Int)) = false := by simp; omega
  have hkf2 : (k < n) = False := by simp; omega
  obtain rfl : n = k := by omega
  have htk : l.take n = l := List.take_of_length_le (by rw [HN.out]; omega)
  have ho := HO.out
  rw [htk] at ho
  have HRR := hid ho
  obtain ⟨so, sc, rfl⟩ := owns_shape ho
  clear hlt hk htk ho HO
  go_wp2
  go_returns
  exact ⟨⟨_, rfl, HRR.out⟩, HE.out⟩
end Go.Proofs.YtpbmbjdiilnaeaaDoor

set_option linter.unusedVariables false
namespace Go.Rg
open Go.RowKit Go.Tum
open Go.ParB (upd Lof)
open Go.ParE (putS slotsR slots Closed)
/-- ks: the operation, its slot, the operation behind which the slot counts no more. z: the last one. -/
structure Mx (W : World) (z : Nat) (ks : List (Nat × Nat × Nat)) (P : Nat → Value → World → Prop) (Q : World → Prop) (L : Nat → Bool) (σ : Nat → Value) (w : World) : Prop where
 st : ∀ d v w w', P d v w → Ext w w' → P d v w'
 a : L z = false → Ext W w
 b : ∀ x ∈ ks, L x.1 = true → L x.2.2 = false → P x.2.1 (σ x.2.1) w
 q : L z = true → Q w
section
variable {W w w' : World} {z : Nat} {ks : List (Nat × Nat × Nat)} {P : Nat → Value → World → Prop} {Q : World → Prop} {L : Nat → Bool} {σ : Nat → Value}
theorem upd_f {i j : Nat} (h : upd L i j = false) : j ≠ i ∧ L j = false := by
 by_cases e : j = i
 · subst e; rw [updE] at h; cases h
 · rw [updN e] at h; exact ⟨e, h⟩
theorem Mx.start (hs : ∀ d v w w', P d v w → Ext w w' → P d v w') : Mx W z ks P Q (fun _ => false) σ { W with drawn := W.drawn + 1 } := ⟨hs, fun _ => Ext.draw W, fun x _ h => by simp at h, fun h => by simp at h⟩
theorem Mx.other (h : Mx W z ks P Q L σ w) {i : Nat} {d : Option Nat} {v : Value} (hi : i ≠ z ∧ ∀ x ∈ ks, x.1 ≠ i ∧ d ≠ some x.2.1) : Mx W z ks P Q (upd L i) (putS σ d v) w := by
 refine ⟨h.st, fun h1 => h.a (upd_f h1).2, fun x hx h1 h2 => ?_, fun h1 => h.q (by rw [updN hi.1.symm] at h1; exact h1)⟩
 have e1 : putS σ d v x.2.1 = σ x.2.1 := by unfold putS; rw [if_neg (hi.2 x hx).2]
 rw [e1]
 rw [updN (hi.2 x hx).1] at h1
 exact h.b x hx h1 (upd_f h2).2
theorem Mx.get (h : Mx W z ks P Q L σ w) (k d e : Nat) (hm : (k, d, e) ∈ ks) (h1 : L k = true) (h2 : L e = false) : P d (σ d) w := h.b _ hm h1 h2
/-- One that only makes memory. -/
theorem Mx.grow (h : Mx W z ks P Q L σ w) {i d : Nat} {v : Value} (hz : L z = false) (hi : i ≠ z ∧ ∀ x ∈ ks, (x.1 = i → x.2.1 = d) ∧ (x.1 ≠ i → x.2.1 ≠ d)) (hx : Ext w w') (hp : P d v w') : Mx W z ks P Q (upd L i) (putS σ (some d) v) w' := by
 refine ⟨h.st, fun _ => (h.a hz).trans hx, fun x hm h1 h2 => ?_, fun h1 => by rw [updN hi.1.symm, hz] at h1; cases h1⟩
 by_cases e : x.1 = i
 · have e2 := (hi.2 x hm).1 e
   have e1 : putS σ (some d) v x.2.1 = v := by unfold putS; rw [if_pos (by rw [e2])]
   rw [e1, e2]; exact hp
 · have e2 := (hi.2 x hm).2 e
   have e1 : putS σ (some d) v x.2.1 = σ x.2.1 := by unfold putS; rw [if_neg (fun e3 => e2 (Option.some.inj e3).symm)]
   rw [e1]
   rw [updN e] at h1
   exact h.st _ _ _ _ (h.b x hm h1 (upd_f h2).2) hx
/-- One that may turn what lives: bs have run, nas have not, lv is kept. -/
theorem Mx.app (h : Mx W z ks P Q L σ w) {i d : Nat} {v : Value} (bs nas : List Nat) (lv : List (Nat × Nat × Nat)) (hz : L z = false) (hb : ∀ j ∈ bs, L j = true) (ha : ∀ j ∈ nas, L j = false)
 (hi : i ≠ z ∧ ∀ x ∈ ks, x.1 = i ∧ x.2.1 = d ∨ x.2.2 = i ∨ x.2.2 ∈ bs ∨ (x.1 ∈ nas ∧ x.1 ≠ i) ∨ (x ∈ lv ∧ x.1 ≠ i ∧ x.2.1 ≠ d))
 (hk : ∀ x ∈ lv, P x.2.1 (σ x.2.1) w → P x.2.1 (σ x.2.1) w') (hx : Ext W w') (hp : P d v w') : Mx W z ks P Q (upd L i) (putS σ (some d) v) w' := by
 refine ⟨h.st, fun _ => hx, fun x hm h1 h2 => ?_, fun h1 => by rw [updN hi.1.symm, hz] at h1; cases h1⟩
 rcases hi.2 x hm with ⟨e, e2⟩ | e | e | ⟨e, e2⟩ | ⟨e, e2, e3⟩
 · have e1 : putS σ (some d) v x.2.1 = v := by unfold putS; rw [if_pos (by rw [e2])]
   rw [e1, e2]; exact hp
 · exact absurd e (upd_f h2).1
 · have := hb _ e; rw [(upd_f h2).2] at this; cases this
 · have := ha _ e; rw [updN e2] at h1; rw [h1] at this; cases this
 · have e1 : putS σ (some d) v x.2.1 = σ x.2.1 := by unfold putS; rw [if_neg (fun e4 => e3 (Option.some.inj e4).symm)]
   rw [e1]
   rw [updN e2] at h1
   exact hk x e (h.b x hm h1 (upd_f h2).2)
theorem Mx.last (h : Mx W z ks P Q L σ w) {d : Option Nat} {v : Value} (bs : List Nat) (hb : ∀ j ∈ bs, L j = true) (hi : ∀ x ∈ ks, x.2.2 = z ∨ x.2.2 ∈ bs) (hq : Q w') : Mx W z ks P Q (upd L z) (putS σ d v) w' := by
 refine ⟨h.st, fun h1 => absurd rfl (upd_f h1).1, fun x hm h1 h2 => ?_, fun _ => hq⟩
 rcases hi x hm with e | e
 · exact absurd e (upd_f h2).1
 · have := hb _ e; rw [(upd_f h2).2] at this; cases this
theorem Mx.fin {m : Nat} (h : Mx W z ks P Q (Lof (Array.replicate m true)) σ w) (hm : z < m) : Q w := h.q (by unfold Lof; simp [Array.getElem?_replicate, hm])
end
end Go.Rg

set_option linter.unusedVariables false
set_option linter.unusedSimpArgs false
namespace Go.Rg
open Go.RowKit Go.Tum
open Go.ParB (upd Lof)
open Go.ParE (putS slotsR slots Closed)
/-- As Mx; ds: the slots of which Q speaks. -/
structure Mz (W : World) (z : Nat) (ks : List (Nat × Nat × Nat)) (ds : List Nat) (P : Nat → Value → World → Prop) (Q : (Nat → Value) → World → Prop) (L : Nat → Bool) (σ : Nat → Value) (w : World) : Prop where
 st : ∀ d v w w', P d v w → Ext w w' → P d v w'
 a : L z = false → Ext W w
 b : ∀ x ∈ ks, L x.1 = true → L x.2.2 = false → P x.2.1 (σ x.2.1) w
 q : L z = true → Q (rest ds σ) w
section
variable {W w w' : World} {z : Nat} {ks : List (Nat × Nat × Nat)} {ds : List Nat} {P : Nat → Value → World → Prop} {Q : (Nat → Value) → World → Prop} {L : Nat → Bool} {σ : Nat → Value}
theorem Mz.start (hs : ∀ d v w w', P d v w → Ext w w' → P d v w') : Mz W z ks ds P Q (fun _ => false) σ { W with drawn := W.drawn + 1 } := ⟨hs, fun _ => Ext.draw W, fun x _ h => by simp at h, fun h => by simp at h⟩
theorem Mz.other (h : Mz W z ks ds P Q L σ w) {i : Nat} {d : Option Nat} {v : Value} (hi : (i ≠ z ∧ ∀ x ∈ ks, x.1 ≠ i ∧ d ≠ some x.2.1) ∧ ∀ e ∈ ds, d ≠ some e) : Mz W z ks ds P Q (upd L i) (putS σ d v) w := by
 refine ⟨h.st, fun h1 => h.a (upd_f h1).2, fun x hx h1 h2 => ?_, fun h1 => by rw [rest_put hi.2]; exact h.q (by rw [updN hi.1.1.symm] at h1; exact h1)⟩
 have e1 : putS σ d v x.2.1 = σ x.2.1 := by unfold putS; rw [if_neg (hi.1.2 x hx).2]
 rw [e1]
 rw [updN (hi.1.2 x hx).1] at h1
 exact h.b x hx h1 (upd_f h2).2
theorem Mz.get (h : Mz W z ks ds P Q L σ w) (k d e : Nat) (hm : (k, d, e) ∈ ks) (h1 : L k = true) (h2 : L e = false) : P d (σ d) w := h.b _ hm h1 h2
theorem Mz.grow (h : Mz W z ks ds P Q L σ w) {i d : Nat} {v : Value} (hz : L z = false) (hi : i ≠ z ∧ ∀ x ∈ ks, (x.1 = i → x.2.1 = d) ∧ (x.1 ≠ i → x.2.1 ≠ d)) (hx : Ext w w') (hp : P d v w') : Mz W z ks ds P Q (upd L i) (putS σ (some d) v) w' := by
 refine ⟨h.st, fun _ => (h.a hz).trans hx, fun x hm h1 h2 => ?_, fun h1 => by rw [updN hi.1.symm, hz] at h1; cases h1⟩
 by_cases e : x.1 = i
 · have e2 := (hi.2 x hm).1 e
   have e1 : putS σ (some d) v x.2.1 = v := by unfold putS; rw [if_pos (by rw [e2])]
   rw [e1, e2]; exact hp
 · have e2 := (hi.2 x hm).2 e
   have e1 : putS σ (some d) v x.2.1 = σ x.2.1 := by unfold putS; rw [if_neg (fun e3 => e2 (Option.some.inj e3).symm)]
   rw [e1]
   rw [updN e] at h1
   exact h.st _ _ _ _ (h.b x hm h1 (upd_f h2).2) hx
theorem Mz.last (h : Mz W z ks ds P Q L σ w) {d : Option Nat} {v : Value} (bs : List Nat) (hb : ∀ j ∈ bs, L j = true) (hi : ∀ x ∈ ks, x.2.2 = z ∨ x.2.2 ∈ bs) (hq : Q (rest ds (putS σ d v)) w') : Mz W z ks ds P Q (upd L z) (putS σ d v) w' := by
 refine ⟨h.st, fun h1 => absurd rfl (upd_f h1).1, fun x hm h1 h2 => ?_, fun _ => hq⟩
 rcases hi x hm with e | e
 · exact absurd e (upd_f h2).1
 · have := hb _ e; rw [(upd_f h2).2] at this; cases this
theorem Mz.fin {m : Nat} (h : Mz W z ks ds P Q (Lof (Array.replicate m true)) σ w) (hm : z < m) : Q (rest ds σ) w := h.q (by unfold Lof; simp [Array.getElem?_replicate, hm])
end
end Go.Rg

set_option linter.unusedSimpArgs false
set_option linter.unusedVariables false
set_option maxRecDepth 100000
namespace Go.Proofs.YtpbmbjdiilnaeaaDoor
open Go Go.RowKit Go.Tum Go.ChangeMaps Go.Sort Go.Tum.Vint Go.Tum.Crc
open Go.ParB (upd Lof)
open Go.ParE (putS slotsR slots Closed)

abbrev ItR (w : World) (B : Nat) (v : Value) (l : List Itm) : Prop := w.ownsRow B 87 10 v l.length (l.flatMap itcells)
abbrev DdR (w : World) (B : Nat) (v : Value) (l : List (UInt64 × UInt64)) : Prop := w.ownsRow B 76 2 v l.length (l.flatMap ddcells)
abbrev CuR (w : World) (B : Nat) (v : Value) (l : List (List UInt8 × UInt64)) : Prop := w.ownsRow B 73 2 v l.length (l.flatMap cucells)
theorem itr_its {w : World} {B : Nat} {v : Value} {l : List Itm} (h : ItR w B v l) : Its w v l := ⟨fun _ _ => rfl, Sl.of_owns h⟩
theorem ddr_rows {w : World} {B : Nat} {v : Value} {l : List (UInt64 × UInt64)} (h : DdR w B v l) : RowsOf w 2 v ddcells l := ⟨fun _ _ => rfl, Sl.of_owns h⟩
theorem cur_rows {w : World} {B : Nat} {v : Value} {l : List (List UInt8 × UInt64)} (h : CuR w B v l) : RowsOf w 2 v cucells l := ⟨fun _ _ => rfl, Sl.of_owns h⟩
/-- The snapshot that Load makes lies in the box p, its rows are Load's own. -/
structure OwS (w0 w : World) (p : Nat) (s : Snp) (vi vd vc : Value) : Prop where
 box : w.heap[p]? = some (.cells (snpC s vi vd vc) 39 (0, 0))
 it : ItR w w0.heap.size vi s.items
 dd : DdR w w0.heap.size vd s.dead
 cu : CuR w w0.heap.size vc s.curs
 lp : w0.heap.size ≤ p
 low : Ext w0 w
theorem OwS.ext {w0 w w' : World} {p : Nat} {s : Snp} {vi vd vc : Value} (h : OwS w0 w p s vi vd vc) (k : Ext w w') : OwS w0 w' p s vi vd vc :=
 ⟨k.obj h.box, k.owns h.it, k.owns h.dd, k.owns h.cu, h.lp, h.low.trans k⟩
theorem OwS.snp {w0 w : World} {p : Nat} {s : Snp} {vi vd vc : Value} (h : OwS w0 w p s vi vd vc) : SnpIn w s vi vd vc := ⟨itr_its h.it, ddr_rows h.dd, cur_rows h.cu⟩
theorem box_farR {w w' : World} {p B T k n : Nat} {v : Value} {xs : List Value} {cs : Array Value} (hb : w.heap[p]? = some (.cells cs 39 (0, 0))) (h : w.ownsRow B T k v n xs) (h1 : T ≠ 39) (hg : w.grownBy w' v.ownBlock) (hbl : Below B w w') : w'.heap[p]? = some (.cells cs 39 (0, 0)) := by
 rw [(fr_grown hg hbl).block p (Array.getElem?_eq_some_iff.1 hb).1 (owns_notIn h hb h1)]
 exact hb
theorem set_snpR {w : World} {p : Nat} {s : Snp} {vi vd vc : Value} (hb : w.heap[p]? = some (.cells (snpC s vi vd vc) 39 (0, 0))) :
 (∀ v, (w.setCell ⟨p, 5, none⟩ v).heap[p]? = some (.cells (snpC s v vd vc) 39 (0, 0))) ∧ (∀ v, (w.setCell ⟨p, 6, none⟩ v).heap[p]? = some (.cells (snpC s vi v vc) 39 (0, 0))) ∧ (∀ v, (w.setCell ⟨p, 7, none⟩ v).heap[p]? = some (.cells (snpC s vi vd v) 39 (0, 0))) := by
 refine ⟨fun v => ?_, fun v => ?_, fun v => ?_⟩
 · have := Go.Joins.block_setCell (i := 5) hb v
   simpa [snpC] using this
 · have := Go.Joins.block_setCell (i := 6) hb v
   simpa [snpC] using this
 · have := Go.Joins.block_setCell (i := 7) hb v
   simpa [snpC] using this
theorem OwS.addI {w0 w w3 : World} {p : Nat} {s : Snp} {vi vd vc : Value} (h : OwS w0 w p s vi vd vc) (x : Itm) {v : Value} {n : Nat} (ho : w3.ownsRow w0.heap.size 87 10 v n (s.items.flatMap itcells ++ itcells x)) (hn : n = s.items.length + 1) (hg : w.grownBy w3 vi.ownBlock) (hb : Below w0.heap.size w w3) :
 OwS w0 (w3.setCell ⟨p, 5, none⟩ v) p { s with items := s.items ++ [x] } v vd vc ∧ w3.cell? ⟨p, 5, none⟩ = some vi ∧ w3.frozen? ⟨p, 5, none⟩ = false := by
 subst hn
 have hx := box_farR h.box h.it (by decide) hg hb
 refine ⟨⟨(set_snpR (s := s) hx).1 v, owns_set (by simpa using ho) hx (by decide), owns_set (rows_far h.dd h.it (by decide) hg) hx (by decide), owns_set (rows_far h.cu h.it (by decide) hg) hx (by decide), h.lp, (h.low.below hb).below ((fr_setCell (S := [p]) _ _ _ (by simp)).below (by simp; exact h.lp) (h.low.below hb).size)⟩, ?_, ?_⟩
 · rw [cell_of_row _ _ _ _ _ _ hx]; rfl
 · simp [World.frozen?, hx]
theorem OwS.addD {w0 w w3 : World} {p : Nat} {s : Snp} {vi vd vc : Value} (h : OwS w0 w p s vi vd vc) (x : UInt64 × UInt64) {v : Value} {n : Nat} (ho : w3.ownsRow w0.heap.size 76 2 v n (s.dead.flatMap ddcells ++ ddcells x)) (hn : n = s.dead.length + 1) (hg : w.grownBy w3 vd.ownBlock) (hb : Below w0.heap.size w w3) :
 OwS w0 (w3.setCell ⟨p, 6, none⟩ v) p { s with dead := s.dead ++ [x] } vi v vc ∧ w3.cell? ⟨p, 6, none⟩ = some vd ∧ w3.frozen? ⟨p, 6, none⟩ = false := by
 subst hn
 have hx := box_farR h.box h.dd (by decide) hg hb
 refine ⟨⟨(set_snpR (s := s) hx).2.1 v, owns_set (rows_far h.it h.dd (by decide) hg) hx (by decide), owns_set (by simpa using ho) hx (by decide), owns_set (rows_far h.cu h.dd (by decide) hg) hx (by decide), h.lp, (h.low.below hb).below ((fr_setCell (S := [p]) _ _ _ (by simp)).below (by simp; exact h.lp) (h.low.below hb).size)⟩, ?_, ?_⟩
 · rw [cell_of_row _ _ _ _ _ _ hx]; rfl
 · simp [World.frozen?, hx]
theorem OwS.addC {w0 w w3 : World} {p : Nat} {s : Snp} {vi vd vc : Value} (h : OwS w0 w p s vi vd vc) (x : List UInt8 × UInt64) {v : Value} {n : Nat} (ho : w3.ownsRow w0.heap.size 73 2 v n (s.curs.flatMap cucells ++ cucells x)) (hn : n = s.curs.length + 1) (hg : w.grownBy w3 vc.ownBlock) (hb : Below w0.heap.size w w3) :
 OwS w0 (w3.setCell ⟨p, 7, none⟩ v) p { s with curs := s.curs ++ [x] } vi vd v ∧ w3.cell? ⟨p, 7, none⟩ = some vc ∧ w3.frozen? ⟨p, 7, none⟩ = false := by
 subst hn
 have hx := box_farR h.box h.cu (by decide) hg hb
 refine ⟨⟨(set_snpR (s := s) hx).2.2 v, owns_set (rows_far h.it h.cu (by decide) hg) hx (by decide), owns_set (rows_far h.dd h.cu (by decide) hg) hx (by decide), owns_set (by simpa using ho) hx (by decide), h.lp, (h.low.below hb).below ((fr_setCell (S := [p]) _ _ _ (by simp)).below (by simp; exact h.lp) (h.low.below hb).size)⟩, ?_, ?_⟩
 · rw [cell_of_row _ _ _ _ _ _ hx]; rfl
 · simp [World.frozen?, hx]
theorem OwS.frB {w0 w w' : World} {p : Nat} {s : Snp} {vi vd vc : Value} (h : OwS w0 w p s vi vd vc) {S : List Nat} (f : Fr S w w') (hS : ∀ q ∈ S, q < w0.heap.size) : SnpIn w' s vi vd vc :=
 ⟨itr_its (owns_frB h.it f hS), ddr_rows (owns_frB h.dd f hS), cur_rows (owns_frB h.cu f hS)⟩
theorem setRow_frY (w : World) (b : Nat) (cs : Array Value) : Fr [b] w (w.setRow b cs) := ⟨rfl, rfl, rfl, Nat.le_of_eq (setRow_size w b cs).symm, fun j hj hn => setRow_other w b j cs (by simpa using hn)⟩
theorem ow_results (tmps : Array Value) (w : World) (b : Nat) (v0 v1 v2 v3 v4 v5 v6 v7 v8 v9 : Value) (h4 : tmps.getD 2 undef = .pointer (some ⟨b, 0, none⟩)) (m : w.heap[b]? = some (.cells #[v0, v1, v2, v3, v4, v5, v6, v7, v8, v9] 39 (0, 0))) :
 (results Tryd.f8 tmps).run Tryd.prog w = .ok (.agg #[v0, v1, v2, v3, v4, v5, v6, v7, v8, v9]) w := by
 have h4' : tmps[2]?.getD undef = .pointer (some ⟨b, 0, none⟩) := by simpa using h4
 obtain ⟨⟨m0, m1, m2, m3, m4, m5, m6, m7, m8, m9⟩, -⟩ := blk10 m
 simp [results, Tryd.results8, go_sem, h4', m0, m1, m2, m3, m4, m5, m6, m7, m8, m9]
theorem owns_frT {w w' : World} {B T k n q : Nat} {v : Value} {xs : List Value} {cs : Array Value} {ty : TypeId} {fr : Nat × Nat} (h : w.ownsRow B T k v n xs) (f : Fr [q] w w') (hb : w.heap[q]? = some (.cells cs ty fr)) (hne : T ≠ ty) : w'.ownsRow B T k v n xs := by
 refine ⟨h.1, ?_⟩
 rcases h.2 with hn | ⟨g, cap, cur, hv, hbb, hgg, hrest⟩
 · exact .inl hn
 · refine .inr ⟨g, cap, cur, hv, hbb, ?_, hrest⟩
   rw [f.block g (Array.getElem?_eq_some_iff.1 hgg).1 (fun hm => by
    rcases List.mem_singleton.1 hm with rfl
    rw [hb] at hgg
    simp only [Option.some.injEq, Obj.cells.injEq] at hgg
    exact hne hgg.2.1.symm)]
   exact hgg
def OwQ (W : World) (s : Snp) (d : Nat) (v : Value) (w' : World) : Prop := match d with
 | 23 => w'.ownsRow W.heap.size 87 10 v s.items.length (s.items.flatMap itcells)
 | 24 => ∃ o c, v = .agg #[uv s.now, uv s.next, uv s.lea, uv s.trn, uv s.dth, .slice o s.items.length c, .slice none 0 0, .slice none 0 0] ∧ w'.ownsRow W.heap.size 87 10 (.slice o s.items.length c) s.items.length (s.items.flatMap itcells)
 | 29 => ∃ o c, v = .agg #[uv s.now, uv s.next, uv s.lea, uv s.trn, uv s.dth, .slice o s.items.length c, .slice none 0 0, .slice none 0 0, uv s.seg, uv s.ps] ∧ w'.ownsRow W.heap.size 87 10 (.slice o s.items.length c) s.items.length (s.items.flatMap itcells)
 | 4 => ∃ q, v = pv q ∧ W.heap.size ≤ q ∧ w'.heap[q]? = some (.cells #[.int .u64 0, .int .u64 0, .int .u64 0, .int .u64 0, .int .u64 0, .slice none 0 0, .slice none 0 0, .slice none 0 0, .int .u64 0, .int .u64 0] 39 (0, 0))
 | _ => True
theorem OwQ.st {W : World} {s : Snp} : ∀ d v w w', OwQ W s d v w → Ext w w' → OwQ W s d v w' := by
 intro d v w w' h k
 unfold OwQ at h ⊢
 split
 · exact k.owns h
 · obtain ⟨o, c, h1, h2⟩ := h; exact ⟨o, c, h1, k.owns h2⟩
 · obtain ⟨o, c, h1, h2⟩ := h; exact ⟨o, c, h1, k.owns h2⟩
 · obtain ⟨q, e1, e2, e3⟩ := h; exact ⟨q, e1, e2, k.obj e3⟩
 · trivial
set_option maxHeartbeats 4000000 in
theorem own13_any (s : Snp) (vi vd vc : Value) (w : World) (h : SnpIn w s vi vd vc) (hl : s.items.length * 80 ≤ 140737488355328 ∧ s.dead.length * 16 ≤ 140737488355328 ∧ s.curs.length * 24 ≤ 140737488355328) :
 Calls Tryd.prog 8 #[.agg (snpC s vi vd vc)] w fun e w' => (∃ ui ud uc, e = .returned (.agg (snpC s ui ud uc)) ∧ SnpIn w' s ui ud uc) ∧ Ext w w' := by
 have HIT := hid h.it
 obtain ⟨io, ic, rfl, -⟩ := h.it.open
 obtain ⟨do_, dc, rfl, hdle, hdmx, hdnn, hdcell⟩ := h.dd.open
 obtain ⟨co, cc, rfl, hcle, hcmx, hcnn, hccell⟩ := h.cu.open
 have HDC := hid hdcell
 have HDNN := hid hdnn
 have HCC := hid hccell
 have HCNN := hid hcnn
 have HL := hid hl
 obtain ⟨now, next, lea, trn, dth, items, dead, curs, sg, ps⟩ := s
 obtain ⟨n, hn⟩ : ∃ n, items.length = n := ⟨_, rfl⟩
 obtain ⟨nd, hnd⟩ : ∃ n, dead.length = n := ⟨_, rfl⟩
 obtain ⟨m, hm⟩ : ∃ n, curs.length = n := ⟨_, rfl⟩
 unfold snpC
 dsimp only at hdle hcle HIT HDC HCC HL ⊢
 rw [hn] at HIT HL ⊢
 rw [hnd] at hdle HL ⊢
 rw [hm] at hcle HL ⊢
 have HN := hid hn
 have HND := hid hnd
 have HM := hid hm
 obtain ⟨V0, hV0⟩ : ∃ W, w.alloc (.cells #[uv now, uv next, uv lea, uv trn, uv dth, .slice io n ic, .slice do_ nd dc, .slice co m cc, uv sg, uv ps] 29 (0, 0)) = W := ⟨_, rfl⟩
 have hE0 := Ext.alloc w (.cells #[uv now, uv next, uv lea, uv trn, uv dth, .slice io n ic, .slice do_ nd dc, .slice co m cc, uv sg, uv ps] 29 (0, 0))
 have hb0 := heap_alloc_new w (.cells #[uv now, uv next, uv lea, uv trn, uv dth, .slice io n ic, .slice do_ nd dc, .slice co m cc, uv sg, uv ps] 29 (0, 0))
 rw [hV0] at hE0 hb0
 obtain ⟨V1, hV1⟩ : ∃ W, V0.alloc (.cells #[.int .u64 0, .int .u64 0, .int .u64 0, .int .u64 0, .int .u64 0, .slice none 0 0, .slice none 0 0, .slice none 0 0, .int .u64 0, .int .u64 0] 39 (0, 0)) = W := ⟨_, rfl⟩
 have hE1 := Ext.alloc V0 (.cells #[.int .u64 0, .int .u64 0, .int .u64 0, .int .u64 0, .int .u64 0, .slice none 0 0, .slice none 0 0, .slice none 0 0, .int .u64 0, .int .u64 0] 39 (0, 0))
 have hb1 := heap_alloc_new V0 (.cells #[.int .u64 0, .int .u64 0, .int .u64 0, .int .u64 0, .int .u64 0, .slice none 0 0, .slice none 0 0, .slice none 0 0, .int .u64 0, .int .u64 0] 39 (0, 0))
 rw [hV1] at hE1 hb1
 obtain ⟨V2, hV2⟩ : ∃ W, V1.alloc (.cells #[uv now, uv next, uv lea, uv trn, uv dth, .slice io n ic, .slice do_ nd dc, .slice co m cc] 27 (0, 0)) = W := ⟨_, rfl⟩
 have hE2 := Ext.alloc V1 (.cells #[uv now, uv next, uv lea, uv trn, uv dth, .slice io n ic, .slice do_ nd dc, .slice co m cc] 27 (0, 0))
 have hb2 := heap_alloc_new V1 (.cells #[uv now, uv next, uv lea, uv trn, uv dth, .slice io n ic, .slice do_ nd dc, .slice co m cc] 27 (0, 0))
 rw [hV2] at hE2 hb2
 have HE2 := hid (hE0.trans (hE1.trans hE2))
 have HV0 := hid hE0.size
 have HB0 := hid ((hE1.trans hE2).obj hb0)
 have HB1 := hid (hE2.obj hb1)
 have HB2 := hid hb2
 obtain ⟨⟨b0, b1, b2, b3, b4, b5, b6, b7, b8, b9⟩, bf⟩ := blk10 (hE1.obj hb0)
 clear h hdnn hdcell hcnn hccell hn hnd hm hl hE0 hE1 hE2 hb0 hb1 hb2
 go_enter Tryd.func8, Tryd.ntmps8
 go_wp2_with (first | rw [hV0] | rw [hV1] | rw [hV2])
 clear hV0 hV1 hV2 b0 b1 b2 b3 b4 b5 b6 b7 b8 b9 bf
 obtain ⟨p0, hp0⟩ : ∃ b, w.heap.size = b := ⟨_, rfl⟩
 obtain ⟨p1, hp1⟩ : ∃ b, V0.heap.size = b := ⟨_, rfl⟩
 obtain ⟨p2, hp2⟩ : ∃ b, V1.heap.size = b := ⟨_, rfl⟩
 rw [hp0] at HB0
 rw [hp1] at HB1
 rw [hp2] at HB2
 have HP0 := hid hp0
 have HP1 := hid hp1
 try rw [hp0]
 try rw [hp1]
 try rw [hp2]
 clear hp0 hp1 hp2
 refine ParE.wp_region_e (l := [_, _, _, _, _, _, _, _, _, _, _, _, _, _, _, _, _, _, _, _, _]) rfl (Rg.Mz V2 20 [(12, 23, 13), (13, 24, 18), (18, 29, 20), (19, 4, 20)] [4] (OwQ V2 ⟨now, next, lea, trn, dth, items, [], [], sg, ps⟩) (fun σ w' => ∃ q o c, σ 4 = pv q ∧ OwS V2 w' q ⟨now, next, lea, trn, dth, items, [], [], sg, ps⟩ (.slice o n c) (.slice none 0 0) (.slice none 0 0))) (ParC.VC [ParC.EQ (pv p2), ParC.EQ (uv now), ParC.EQ (Value.pointer (some ⟨p2, 1, none⟩)), ParC.EQ (uv next), ParC.EQ (Value.pointer (some ⟨p2, 2, none⟩)), ParC.EQ (uv lea), ParC.EQ (Value.pointer (some ⟨p2, 3, none⟩)), ParC.EQ (uv trn), ParC.EQ (Value.pointer (some ⟨p2, 4, none⟩)), ParC.EQ (uv dth), ParC.EQ (Value.pointer (some ⟨p2, 5, none⟩)), ParC.EQ (Value.slice io n ic), (fun _ => True), (fun _ => True), ParC.EQ (Value.pointer (some ⟨p0, 8, none⟩)), ParC.EQ (uv sg), ParC.EQ (Value.pointer (some ⟨p0, 9, none⟩)), ParC.EQ (uv ps), (fun _ => True), (fun _ => True), fun _ => True]) (by kernel_rfl) (by kernel_rfl) (Rg.Mz.start OwQ.st) ?_ ?_
 · refine ⟨fun L ρ w' hR hC hL hd hk => ?_, ?_⟩
   · obtain ⟨(e0 : ρ (.tmp 3) = pv p2), -⟩ := hk; refine Par.val_k fun K hK => ?_; unfold Par.val
     (go_simp; exact hK _ _ ⟨hR.other (by decide), rfl⟩)
   refine ⟨fun L ρ w' hR hC hL hd hk => ?_, ?_⟩
   · obtain ⟨(e0 : ρ (.tmp 11) = pv p2), -⟩ := hk; refine Par.val_k fun K hK => ?_; unfold Par.val
     (have hx := hR.a (hC.notyet 20 1 hL (by kernel_rfl)); obtain ⟨⟨cc, -, -, -, -, -, -, -⟩, -⟩ := blk8s (hx.obj HB2.out); go_simp; exact hK _ _ ⟨hR.other (by decide), rfl⟩)
   refine ⟨fun L ρ w' hR hC hL hd hk => ?_, ?_⟩
   · obtain ⟨(e0 : ρ (.tmp 3) = pv p2), -⟩ := hk; refine Par.val_k fun K hK => ?_; unfold Par.val
     (go_simp; exact hK _ _ ⟨hR.other (by decide), rfl⟩)
   refine ⟨fun L ρ w' hR hC hL hd hk => ?_, ?_⟩
   · obtain ⟨(e0 : ρ (.tmp 13) = Value.pointer (some ⟨p2, 1, none⟩)), -⟩ := hk; refine Par.val_k fun K hK => ?_; unfold Par.val
     (have hx := hR.a (hC.notyet 20 3 hL (by kernel_rfl)); obtain ⟨⟨-, cc, -, -, -, -, -, -⟩, -⟩ := blk8s (hx.obj HB2.out); go_simp; exact hK _ _ ⟨hR.other (by decide), rfl⟩)
   refine ⟨fun L ρ w' hR hC hL hd hk => ?_, ?_⟩
   · obtain ⟨(e0 : ρ (.tmp 3) = pv p2), -⟩ := hk; refine Par.val_k fun K hK => ?_; unfold Par.val
     (go_simp; exact hK _ _ ⟨hR.other (by decide), rfl⟩)
   refine ⟨fun L ρ w' hR hC hL hd hk => ?_, ?_⟩
   · obtain ⟨(e0 : ρ (.tmp 15) = Value.pointer (some ⟨p2, 2, none⟩)), -⟩ := hk; refine Par.val_k fun K hK => ?_; unfold Par.val
     (have hx := hR.a (hC.notyet 20 5 hL (by kernel_rfl)); obtain ⟨⟨-, -, cc, -, -, -, -, -⟩, -⟩ := blk8s (hx.obj HB2.out); go_simp; exact hK _ _ ⟨hR.other (by decide), rfl⟩)
   refine ⟨fun L ρ w' hR hC hL hd hk => ?_, ?_⟩
   · obtain ⟨(e0 : ρ (.tmp 3) = pv p2), -⟩ := hk; refine Par.val_k fun K hK => ?_; unfold Par.val
     (go_simp; exact hK _ _ ⟨hR.other (by decide), rfl⟩)
   refine ⟨fun L ρ w' hR hC hL hd hk => ?_, ?_⟩
   · obtain ⟨(e0 : ρ (.tmp 17) = Value.pointer (some ⟨p2, 3, none⟩)), -⟩ := hk; refine Par.val_k fun K hK => ?_; unfold Par.val
     (have hx := hR.a (hC.notyet 20 7 hL (by kernel_rfl)); obtain ⟨⟨-, -, -, cc, -, -, -, -⟩, -⟩ := blk8s (hx.obj HB2.out); go_simp; exact hK _ _ ⟨hR.other (by decide), rfl⟩)
   refine ⟨fun L ρ w' hR hC hL hd hk => ?_, ?_⟩
   · obtain ⟨(e0 : ρ (.tmp 3) = pv p2), -⟩ := hk; refine Par.val_k fun K hK => ?_; unfold Par.val
     (go_simp; exact hK _ _ ⟨hR.other (by decide), rfl⟩)
   refine ⟨fun L ρ w' hR hC hL hd hk => ?_, ?_⟩
   · obtain ⟨(e0 : ρ (.tmp 19) = Value.pointer (some ⟨p2, 4, none⟩)), -⟩ := hk; refine Par.val_k fun K hK => ?_; unfold Par.val
     (have hx := hR.a (hC.notyet 20 9 hL (by kernel_rfl)); obtain ⟨⟨-, -, -, -, cc, -, -, -⟩, -⟩ := blk8s (hx.obj HB2.out); go_simp; exact hK _ _ ⟨hR.other (by decide), rfl⟩)
   refine ⟨fun L ρ w' hR hC hL hd hk => ?_, ?_⟩
   · obtain ⟨(e0 : ρ (.tmp 3) = pv p2), -⟩ := hk; refine Par.val_k fun K hK => ?_; unfold Par.val
     (go_simp; exact hK _ _ ⟨hR.other (by decide), rfl⟩)
   refine ⟨fun L ρ w' hR hC hL hd hk => ?_, ?_⟩
   · obtain ⟨(e0 : ρ (.tmp 21) = Value.pointer (some ⟨p2, 5, none⟩)), -⟩ := hk; refine Par.val_k fun K hK => ?_; unfold Par.val
     (have hx := hR.a (hC.notyet 20 11 hL (by kernel_rfl)); obtain ⟨⟨-, -, -, -, -, cc, -, -⟩, -⟩ := blk8s (hx.obj HB2.out); go_simp; exact hK _ _ ⟨hR.other (by decide), rfl⟩)
   refine ⟨fun L ρ w' hR hC hL hd hk => ?_, ?_⟩
   · obtain ⟨e0, (e1 : ρ (.tmp 22) = Value.slice io n ic), -⟩ := hk; refine Par.val_k fun K hK => ?_; unfold Par.val
     (have hz := hC.notyet 20 12 hL (by kernel_rfl); have hx := hR.a hz; refine Par.val_call Tryd.func20 (by kernel_rfl) rfl e0 ?_; simp only [List.map_toArray, List.map_cons, List.map_nil, e1]; refine (items13_any _ items w' (HIT.out.ext (HE2.out.trans hx)) (by have := HL.out.1; rw [HN.out]; exact this)).mono ?_; rintro e w5 ⟨⟨u, rfl, hu⟩, hx5⟩; exact ⟨_, rfl, hK _ _ ⟨hR.grow hz (by decide) hx5 (owns_mono hu hx.size), trivial⟩⟩)
   refine ⟨fun L ρ w' hR hC hL hd hk => ?_, ?_⟩
   · obtain ⟨(e0 : ρ (.tmp 12) = uv now), (e1 : ρ (.tmp 14) = uv next), (e2 : ρ (.tmp 16) = uv lea), (e3 : ρ (.tmp 18) = uv trn), (e4 : ρ (.tmp 20) = uv dth), (e5 : (fun _ => True) (ρ (.tmp 23)) ), -⟩ := hk; refine Par.val_k fun K hK => ?_; unfold Par.val
     (have hz := hC.notyet 20 13 hL (by kernel_rfl); have hg : OwQ V2 ⟨now, next, lea, trn, dth, items, [], [], sg, ps⟩ 23 (ρ (.tmp 23)) w' := hR.get 12 23 13 (by decide) (hC.before 12 (i := 13) rfl hd (by kernel_rfl)) hL; obtain ⟨o9, c9, s23⟩ := owns_shape hg; have hg2 : w'.ownsRow V2.heap.size 87 10 (ρ (.tmp 23)) items.length (items.flatMap itcells) := hg; rw [s23] at hg2; have HG := hid (hR.grow (i := 13) (d := 24) (v := .agg #[uv now, uv next, uv lea, uv trn, uv dth, .slice o9 items.length c9, .slice none 0 0, .slice none 0 0]) hz (by decide) (Ext.refl _) ⟨o9, c9, rfl, hg2⟩); clear hg hg2; go_simp; exact hK _ _ ⟨HG.out, trivial⟩)
   refine ⟨fun L ρ w' hR hC hL hd hk => ?_, ?_⟩
   · obtain ⟨(e0 : ρ (.tmp 1) = pv p0), -⟩ := hk; refine Par.val_k fun K hK => ?_; unfold Par.val
     (go_simp; exact hK _ _ ⟨hR.other (by decide), rfl⟩)
   refine ⟨fun L ρ w' hR hC hL hd hk => ?_, ?_⟩
   · obtain ⟨(e0 : ρ (.tmp 25) = Value.pointer (some ⟨p0, 8, none⟩)), -⟩ := hk; refine Par.val_k fun K hK => ?_; unfold Par.val
     (have hx := hR.a (hC.notyet 20 15 hL (by kernel_rfl)); obtain ⟨⟨-, -, -, -, -, -, -, -, cc, -⟩, -⟩ := blk10 (hx.obj HB0.out); go_simp; exact hK _ _ ⟨hR.other (by decide), rfl⟩)
   refine ⟨fun L ρ w' hR hC hL hd hk => ?_, ?_⟩
   · obtain ⟨(e0 : ρ (.tmp 1) = pv p0), -⟩ := hk; refine Par.val_k fun K hK => ?_; unfold Par.val
     (go_simp; exact hK _ _ ⟨hR.other (by decide), rfl⟩)
   refine ⟨fun L ρ w' hR hC hL hd hk => ?_, ?_⟩
   · obtain ⟨(e0 : ρ (.tmp 27) = Value.pointer (some ⟨p0, 9, none⟩)), -⟩ := hk; refine Par.val_k fun K hK => ?_; unfold Par.val
     (have hx := hR.a (hC.notyet 20 17 hL (by kernel_rfl)); obtain ⟨⟨-, -, -, -, -, -, -, -, -, cc⟩, -⟩ := blk10 (hx.obj HB0.out); go_simp; exact hK _ _ ⟨hR.other (by decide), rfl⟩)
   refine ⟨fun L ρ w' hR hC hL hd hk => ?_, ?_⟩
   · obtain ⟨(e0 : (fun _ => True) (ρ (.tmp 24)) ), (e1 : ρ (.tmp 26) = uv sg), (e2 : ρ (.tmp 28) = uv ps), -⟩ := hk; refine Par.val_k fun K hK => ?_; unfold Par.val
     (have hz := hC.notyet 20 18 hL (by kernel_rfl); have hg : OwQ V2 ⟨now, next, lea, trn, dth, items, [], [], sg, ps⟩ 24 (ρ (.tmp 24)) w' := hR.get 13 24 18 (by decide) (hC.before 13 (i := 18) rfl hd (by kernel_rfl)) hL; obtain ⟨o9, c9, s24, hg2⟩ := hg; have HG := hid (hR.grow (i := 18) (d := 29) (v := .agg #[uv now, uv next, uv lea, uv trn, uv dth, .slice o9 items.length c9, .slice none 0 0, .slice none 0 0, uv sg, uv ps]) hz (by decide) (Ext.refl _) ⟨o9, c9, rfl, hg2⟩); clear hg2; dsimp only at s24; go_simp; exact hK _ _ ⟨HG.out, trivial⟩)
   refine ⟨fun L ρ w' hR hC hL hd hk => ?_, ?_⟩
   · obtain ⟨-⟩ := hk; refine Par.val_k fun K hK => ?_; unfold Par.val
     (have hz := hC.notyet 20 19 hL (by kernel_rfl); have hx := hR.a hz; have HG := hid (hR.grow (i := 19) (d := 4) hz (by decide) (Ext.alloc w' (.cells #[.int .u64 0, .int .u64 0, .int .u64 0, .int .u64 0, .int .u64 0, .slice none 0 0, .slice none 0 0, .slice none 0 0, .int .u64 0, .int .u64 0] 39 (0, 0))) ⟨w'.heap.size, rfl, hx.size, heap_alloc_new _ _⟩); go_simp; exact hK _ _ ⟨HG.out, trivial⟩)
   refine ⟨fun L ρ w' hR hC hL hd hk => ?_, ?_⟩
   · obtain ⟨(e0 : (fun _ => True) (ρ (.tmp 4)) ), (e1 : (fun _ => True) (ρ (.tmp 29)) ), -⟩ := hk; refine Par.val_k fun K hK => ?_; unfold Par.val
     (have hx := hR.a hL; have hg : OwQ V2 ⟨now, next, lea, trn, dth, items, [], [], sg, ps⟩ 29 (ρ (.tmp 29)) w' := hR.get 18 29 20 (by decide) (hC.before 18 (i := 20) rfl hd (by kernel_rfl)) hL; have hg4 : OwQ V2 ⟨now, next, lea, trn, dth, items, [], [], sg, ps⟩ 4 (ρ (.tmp 4)) w' := hR.get 19 4 20 (by decide) (hC.before 19 (i := 20) rfl hd (by kernel_rfl)) hL; obtain ⟨o9, c9, s29, hg2⟩ := hg; obtain ⟨qb, s4, hqs, hqb⟩ := hg4; dsimp only at s29 hg2; rw [HN.out] at s29 hg2; obtain ⟨⟨z0, z1, z2, z3, z4, z5, z6, z7, z8, z9⟩, zf⟩ := blk10 hqb; have hf9 := set10_fr w' qb (uv now) (uv next) (uv lea) (uv trn) (uv dth) (.slice o9 n c9) (.slice none 0 0) (.slice none 0 0) (uv sg) (uv ps); have HS9 : Hid (OwS V2 _ qb ⟨now, next, lea, trn, dth, items, [], [], sg, ps⟩ (.slice o9 n c9) (.slice none 0 0) (.slice none 0 0)) := hid ⟨set10 hqb (uv now) (uv next) (uv lea) (uv trn) (uv dth) (.slice o9 n c9) (.slice none 0 0) (.slice none 0 0) (uv sg) (uv ps), (by show World.ownsRow _ _ _ _ _ items.length _; rw [HN.out]; exact owns_frT hg2 hf9 hqb (by decide)), World.ownsRow_nil _ _ _ _, World.ownsRow_nil _ _ _ _, hqs, Ext.below hx (hf9.below (by simp; exact hqs) hx.size)⟩; clear hqs hqb hx hg2 hf9; go_simp; exact hK _ _ ⟨hR.last [12, 13, 18, 19] (by intro j hj; simp at hj; rcases hj with rfl | rfl | rfl | rfl; exact hC.before 12 (i := 20) rfl hd (by kernel_rfl); exact hC.before 13 (i := 20) rfl hd (by kernel_rfl); exact hC.before 18 (i := 20) rfl hd (by kernel_rfl); exact hC.before 19 (i := 20) rfl hd (by kernel_rfl)) (by decide) ⟨qb, o9, c9, s4, HS9.out⟩, trivial⟩)
   trivial
 intro a' w' inv hR
 have q11 : a'.tmps.getD 11 undef = pv p2 := inv.done 0 _ 11 rfl rfl rfl
 have q12 : a'.tmps.getD 12 undef = uv now := inv.done 1 _ 12 rfl rfl rfl
 have q13 : a'.tmps.getD 13 undef = Value.pointer (some ⟨p2, 1, none⟩) := inv.done 2 _ 13 rfl rfl rfl
 have q14 : a'.tmps.getD 14 undef = uv next := inv.done 3 _ 14 rfl rfl rfl
 have q15 : a'.tmps.getD 15 undef = Value.pointer (some ⟨p2, 2, none⟩) := inv.done 4 _ 15 rfl rfl rfl
 have q16 : a'.tmps.getD 16 undef = uv lea := inv.done 5 _ 16 rfl rfl rfl
 have q17 : a'.tmps.getD 17 undef = Value.pointer (some ⟨p2, 3, none⟩) := inv.done 6 _ 17 rfl rfl rfl
 have q18 : a'.tmps.getD 18 undef = uv trn := inv.done 7 _ 18 rfl rfl rfl
 have q19 : a'.tmps.getD 19 undef = Value.pointer (some ⟨p2, 4, none⟩) := inv.done 8 _ 19 rfl rfl rfl
 have q20 : a'.tmps.getD 20 undef = uv dth := inv.done 9 _ 20 rfl rfl rfl
 have q21 : a'.tmps.getD 21 undef = Value.pointer (some ⟨p2, 5, none⟩) := inv.done 10 _ 21 rfl rfl rfl
 have q22 : a'.tmps.getD 22 undef = Value.slice io n ic := inv.done 11 _ 22 rfl rfl rfl
 have q23 : (fun _ => True) (a'.tmps.getD 23 undef)  := inv.done 12 _ 23 rfl rfl rfl
 have q24 : (fun _ => True) (a'.tmps.getD 24 undef)  := inv.done 13 _ 24 rfl rfl rfl
 have q25 : a'.tmps.getD 25 undef = Value.pointer (some ⟨p0, 8, none⟩) := inv.done 14 _ 25 rfl rfl rfl
 have q26 : a'.tmps.getD 26 undef = uv sg := inv.done 15 _ 26 rfl rfl rfl
 have q27 : a'.tmps.getD 27 undef = Value.pointer (some ⟨p0, 9, none⟩) := inv.done 16 _ 27 rfl rfl rfl
 have q28 : a'.tmps.getD 28 undef = uv ps := inv.done 17 _ 28 rfl rfl rfl
 have q29 : (fun _ => True) (a'.tmps.getD 29 undef)  := inv.done 18 _ 29 rfl rfl rfl
 have q4 : (fun _ => True) (a'.tmps.getD 4 undef)  := inv.done 19 _ 4 rfl rfl rfl
 clear inv
 simp only [List.filterMap_cons, List.filterMap_nil, Par.putAll, Act.put, List.setIfInBounds_toArray, List.set_cons_succ, List.set_cons_zero, q11, q12, q13, q14, q15, q16, q17, q18, q19, q20, q21, q22, q25, q26, q27, q28]
 clear q11 q12 q13 q14 q15 q16 q17 q18 q19 q20 q21 q22 q25 q26 q27 q28
 obtain ⟨qb, uo, uc, hq4, hos⟩ := Rg.Mz.fin hR (by decide); have e4 : a'.tmps.getD 4 undef = pv qb := hq4; have HOS := hid hos; clear hq4 hos hR
 generalize a'.tmps.getD 23 undef = u23 at *
 generalize a'.tmps.getD 24 undef = u24 at *
 generalize a'.tmps.getD 29 undef = u29 at *
 generalize a'.tmps.getD 4 undef = u4 at *
 try clear a'
 rw [e4]
 clear e4
 obtain ⟨⟨d0, d1, d2, d3, d4, d5, d6, d7⟩, df⟩ := blk8s (HOS.out.low.obj HB2.out)
 go_wp2
 clear d0 d1 d2 d3 d4 d5 d6 d7 df
 go_loopw [33] (fun iv wr => ∃ (k : Nat) (xo : Option Addr) (xc : Nat), k ≤ nd ∧ iv = .int .i64 (k : Int) ∧ Hid (OwS V2 wr qb ⟨now, next, lea, trn, dth, items, (dead.take k), [], sg, ps⟩ (.slice uo n uc) (.slice xo k xc) (.slice none 0 0))) (fun iv _ => nd - (intOf iv).toNat)
 case atStart => exact ⟨0, none, 0, Nat.zero_le _, rfl, hid (by simpa using HOS.out)⟩
 case round =>
  clear HOS
  obtain ⟨k, xo, xc, hk, rfl, HS⟩ := hrel
  by_cases hlt : k < nd
  · have hkj : decide ((k : Int) < (nd : Int)) = true := by simp; omega
    have hkj2 : (k : Int) < (nd : Int) := by omega
    obtain ⟨g, rfl⟩ := HDNN.out (by omega)
    have hltL : k < dead.length := by rw [HND.out]; exact hlt
    have hc := fun j u h => (HE2.out.trans HS.out.low).cell (HDC.out g rfl k hltL j u h)
    have HTK : Hid (dead.take (k + 1) = dead.take k ++ [dead[k]'hltL]) := hid (List.take_succ_eq_append_getElem hltL)
    have hPL : (dead.take k).length = k := by rw [List.length_take]; omega
    obtain ⟨PV, hPV⟩ : ∃ x, dead.take k = x := ⟨_, rfl⟩
    rw [hPV] at HS hPL HTK
    have HPL := hid hPL
    obtain ⟨o, ho⟩ : ∃ o, dead[k]'hltL = o := ⟨_, rfl⟩
    rw [ho] at hc HTK
    obtain ⟨z1, z2⟩ := o
    have k0 := cell_first (hc 0 _ rfl)
    have k1 := cell_next (hc 1 _ rfl) (by decide)
    dsimp only at k0 k1
    obtain ⟨W1, hW1⟩ : ∃ W, wr.alloc (.cells #[uv z1, uv z2] 75 (0, 0)) = W := ⟨_, rfl⟩
    have hE1 := Ext.alloc wr (.cells #[uv z1, uv z2] 75 (0, 0))
    have hn1 := heap_alloc_new wr (.cells #[uv z1, uv z2] 75 (0, 0))
    rw [hW1] at hE1 hn1
    have y0 : W1.cell? ⟨wr.heap.size, 0, none⟩ = some (uv z1) := by rw [cell_of_row _ _ _ _ _ _ hn1]; rfl
    have y1 : W1.cell? ⟨wr.heap.size, 1, none⟩ = some (uv z2) := by rw [cell_of_row _ _ _ _ _ _ hn1]; rfl
    have HS1 := hid (HS.out.ext hE1)
    obtain ⟨⟨-, -, -, -, -, -, q6, q7, -, -⟩, -⟩ := blk10 HS1.out.box
    have hE2 := Ext.alloc W1 (.cells #[uv z1, uv z2] 76)
    have HB2 : Hid (Sl (W1.alloc (.cells #[uv z1, uv z2] 76)) 2 (.slice (some ⟨W1.heap.size, 0, none⟩) 1 1) 1 (ddcells (z1, z2))) := hid (blk_sl13 (cs := ddcells (z1, z2)) (heap_alloc_new _ _) rfl)
    have HS2 := hid (HS1.out.ext hE2)
    have hown : (W1.alloc (.cells #[uv z1, uv z2] 76)).ownsRow V2.heap.size 76 2 (.slice xo k xc) PV.length (PV.flatMap ddcells) := HS2.out.dd
    rw [HPL.out] at hown
    have HOW := hid hown
    have HLK := hid hlt
    have hwk : IntKind.i64.wrap ((k : Int) + 1) = ((k + 1 : Nat) : Int) := i64v _ (by omega) (by omega)
    clear hc ho hE1 hn1 hE2 hltL hlt HS hPV hPL hown
    go_wp2_with (first | rw [hW1] | (at_builtin; go_loud (refine wpList_append_sl rfl (.tmp 39) (.tmp 41) 34 rfl V2.heap.size 76 Tryd.underlying34 infoRDd rfl (by decide) rfl HOW.out rfl HB2.out (by intro y hy; simp [ddcells, cucells] at hy; rcases hy with rfl | rfl <;> rfl) (by simp [maxLen]; have := HLK.out; have := HL.out.2.1; omega) (by have := HLK.out; have := HL.out.2.1; omega) HS2.out.low.size ?_; intro ao3 cap3 w3 hO3 hg3 hb3; obtain ⟨hL9, cc9, ff9⟩ := HS2.out.addD (z1, z2) hO3 (by simp [HPL.out]) hg3 hb3; have HL9 := hid hL9; clear hO3 hg3 hb3 hL9)))
    go_roundw
    case rel => exact ⟨k + 1, ao3, cap3, HLK.out, by first | rfl | go_num, hid (by rw [HTK.out]; exact HL9.out)⟩
    case measure => have := HLK.out; simp [intOf]; omega
  have hkf : decide ((k : Int) < (nd : Int)) = false := by simp; omega
  have hkf2 : (k < nd) = False := by simp; omega
  obtain rfl : nd = k := by omega
  have htk : dead.take nd = dead := List.take_of_length_le (by rw [HND.out]; omega)
  rw [htk] at HS
  have HOS := hid HS.out
  clear hlt hk htk HS
  obtain ⟨⟨d0, d1, d2, d3, d4, d5, d6, d7⟩, df⟩ := blk8s (HOS.out.low.obj HB2.out)
  go_wp2
  clear d0 d1 d2 d3 d4 d5 d6 d7 df hkf hkf2
  go_loopw [49] (fun iv wr => ∃ (k : Nat) (yo : Option Addr) (yc : Nat), k ≤ m ∧ iv = .int .i64 (k : Int) ∧ Hid (OwS V2 wr qb ⟨now, next, lea, trn, dth, items, dead, (curs.take k), sg, ps⟩ (.slice uo n uc) (.slice xo nd xc) (.slice yo k yc))) (fun iv _ => m - (intOf iv).toNat)
  case atStart => exact ⟨0, none, 0, Nat.zero_le _, rfl, hid (by simpa using HOS.out)⟩
  case round =>
   clear HOS
   obtain ⟨k, yo, yc, hk, rfl, HS⟩ := hrel
   by_cases hlt : k < m
   · have hkj : decide ((k : Int) < (m : Int)) = true := by simp; omega
     have hkj2 : (k : Int) < (m : Int) := by omega
     obtain ⟨g, rfl⟩ := HCNN.out (by omega)
     have hltL : k < curs.length := by rw [HM.out]; exact hlt
     have hc := fun j u h => (HE2.out.trans HS.out.low).cell (HCC.out g rfl k hltL j u h)
     have HTK : Hid (curs.take (k + 1) = curs.take k ++ [curs[k]'hltL]) := hid (List.take_succ_eq_append_getElem hltL)
     have hPL : (curs.take k).length = k := by rw [List.length_take]; omega
     obtain ⟨PV, hPV⟩ : ∃ x, curs.take k = x := ⟨_, rfl⟩
     rw [hPV] at HS hPL HTK
     have HPL := hid hPL
     obtain ⟨o, ho⟩ : ∃ o, curs[k]'hltL = o := ⟨_, rfl⟩
     rw [ho] at hc HTK
     obtain ⟨z1, z2⟩ := o
     have k0 := cell_first (hc 0 _ rfl)
     have k1 := cell_next (hc 1 _ rfl) (by decide)
     dsimp only at k0 k1
     obtain ⟨W1, hW1⟩ : ∃ W, wr.alloc (.cells #[.string (str z1), uv z2] 77 (0, 0)) = W := ⟨_, rfl⟩
     have hE1 := Ext.alloc wr (.cells #[.string (str z1), uv z2] 77 (0, 0))
     have hn1 := heap_alloc_new wr (.cells #[.string (str z1), uv z2] 77 (0, 0))
     rw [hW1] at hE1 hn1
     have y0 : W1.cell? ⟨wr.heap.size, 0, none⟩ = some (.string (str z1)) := by rw [cell_of_row _ _ _ _ _ _ hn1]; rfl
     have y1 : W1.cell? ⟨wr.heap.size, 1, none⟩ = some (uv z2) := by rw [cell_of_row _ _ _ _ _ _ hn1]; rfl
     have HS1 := hid (HS.out.ext hE1)
     obtain ⟨⟨-, -, -, -, -, -, q6, q7, -, -⟩, -⟩ := blk10 HS1.out.box
     have hE2 := Ext.alloc W1 (.cells #[.string (str z1), uv z2] 73)
     have HB2 : Hid (Sl (W1.alloc (.cells #[.string (str z1), uv z2] 73)) 2 (.slice (some ⟨W1.heap.size, 0, none⟩) 1 1) 1 (cucells (z1, z2))) := hid (blk_sl13 (cs := cucells (z1, z2)) (heap_alloc_new _ _) rfl)
     have HS2 := hid (HS1.out.ext hE2)
     have hown : (W1.alloc (.cells #[.string (str z1), uv z2] 73)).ownsRow V2.heap.size 73 2 (.slice yo k yc) PV.length (PV.flatMap cucells) := HS2.out.cu
     rw [HPL.out] at hown
     have HOW := hid hown
     have HLK := hid hlt
     have hwk : IntKind.i64.wrap ((k : Int) + 1) = ((k + 1 : Nat) : Int) := i64v _ (by omega) (by omega)
     clear hc ho hE1 hn1 hE2 hltL hlt HS hPV hPL hown
     go_wp2_with (first | rw [hW1] | (at_builtin; go_loud (refine wpList_append_sl rfl (.tmp 55) (.tmp 57) 35 rfl V2.heap.size 73 Tryd.underlying35 infoRCu rfl (by decide) rfl HOW.out rfl HB2.out (by intro y hy; simp [ddcells, cucells] at hy; rcases hy with rfl | rfl <;> rfl) (by simp [maxLen]; have := HLK.out; have := HL.out.2.2; omega) (by have := HLK.out; have := HL.out.2.2; omega) HS2.out.low.size ?_; intro ao3 cap3 w3 hO3 hg3 hb3; obtain ⟨hL9, cc9, ff9⟩ := HS2.out.addC (z1, z2) hO3 (by simp [HPL.out]) hg3 hb3; have HL9 := hid hL9; clear hO3 hg3 hb3 hL9)))
     go_roundw
     case rel => exact ⟨k + 1, ao3, cap3, HLK.out, by first | rfl | go_num, hid (by rw [HTK.out]; exact HL9.out)⟩
     case measure => have := HLK.out; simp [intOf]; omega
   have hkf : decide ((k : Int) < (m : Int)) = false := by simp; omega
   have hkf2 : (k < m) = False := by simp; omega
   obtain rfl : m = k := by omega
   have htk : curs.take m = curs := List.take_of_length_le (by rw [HM.out]; omega)
   rw [htk] at HS
   have HOS := hid HS.out
   clear hlt hk htk HS
   have hb9 : wr.heap[qb]? = some (.cells #[uv now, uv next, uv lea, uv trn, uv dth, .slice uo n uc, .slice xo nd xc, .slice yo m yc, uv sg, uv ps] 39 (0, 0)) := HOS.out.box
   have HB9 := hid hb9
   have HR9 := hid (HOS.out.low.obj HB1.out)
   have HLT : Hid (p1 < V2.heap.size) := hid (Array.getElem?_eq_some_iff.1 HB1.out).1
   have HP1L : Hid (w.heap.size ≤ p1) := hid (by rw [← HP1.out]; exact HV0.out)
   clear hb9
   go_wp2_with (first | (refine wpList_load_row rfl 39 (.tmp 4) rfl qb rfl 39 #[uv now, uv next, uv lea, uv trn, uv dth, .slice uo n uc, .slice xo nd xc, .slice yo m yc, uv sg, uv ps] (0, 0) _ HB9.out Tryd.underlying39 rfl (by kernel_rfl) ?_) | (refine wpList_store_row rfl 39 (.tmp 2) (.tmp 62) rfl p1 #[uv now, uv next, uv lea, uv trn, uv dth, .slice uo n uc, .slice xo nd xc, .slice yo m yc, uv sg, uv ps] rfl rfl 39 _ HR9.out (by kernel_rfl) rfl (by simp [Value.oneCell']) ?_))
   refine bodyPost_ret (ow_results _ _ p1 _ _ _ _ _ _ _ _ _ _ rfl (setRow_heap _ _ _ _ _ _ HR9.out)) rfl ?_
   exact ⟨⟨_, _, _, rfl, HOS.out.frB (setRow_frY _ _ _) (by simp; exact HLT.out)⟩, (HE2.out.trans HOS.out.low).below ((setRow_frY _ _ _).below (by simp; exact HP1L.out) (HE2.out.trans HOS.out.low).size)⟩
end Go.Proofs.YtpbmbjdiilnaeaaDoor

set_option linter.unusedSimpArgs false
set_option linter.unusedVariables false
set_option maxRecDepth 100000
namespace Go.Proofs.YtpbmbjdiilnaeaaDoor
open Go Go.RowKit Go.Tum Go.ChangeMaps Go.Sort Go.Tum.Vint Go.Tum.Crc

set_option maxHeartbeats 1000000 in
theorem drows_eq13 (u v : Value) (l : List (UInt64 × UInt64)) (w : World) (hu : RowsOf w 2 u ddcells l) (hv : RowsOf w 2 v ddcells l) :
 Calls Tryd.prog 36 #[u, v] w fun e w' => e = .returned (.bool true) ∧ Ext w w' := by
 obtain ⟨ao, cap, rfl, hle, hmx, hnn, hcell⟩ := hu.open
 obtain ⟨bo, cbp, rfl, hle2, hmx2, hnn2, hcell2⟩ := hv.open
 have HC := hid hcell
 have HC2 := hid hcell2
 have HNN := hid hnn
 have HNN2 := hid hnn2
 clear hu hv hcell hcell2 hnn hnn2
 have hne : ((l.length : Int) != (l.length : Int)) = false := by simp
 go_enter Tryd.func36, Tryd.ntmps36
 go_wp2
 go_loopw [5] (fun i wr => ∃ k : Nat, k ≤ l.length ∧ i = .int .i64 k ∧ ∃ n, wr = w.drewN n) (fun i _ => l.length - (intOf i).toNat)
 case atStart => exact ⟨0, by omega, rfl, 0, rfl⟩
 case round =>
  obtain ⟨k, hk, rfl, n, rfl⟩ := hrel
  by_cases hlt : k < l.length
  · obtain ⟨a, rfl⟩ := HNN.out (by omega)
    obtain ⟨b, rfl⟩ := HNN2.out (by omega)
    have hc := HC.out a rfl k hlt
    have hd := HC2.out b rfl k hlt
    obtain ⟨z, hz3⟩ : ∃ z, l[k] = z := ⟨_, rfl⟩
    rw [hz3] at hc hd
    obtain ⟨z1, z2⟩ := z
    have r0 := cell_first (hc 0 _ rfl)
    have r1 := cell_next (hc 1 _ rfl) (by decide)
    have s0 := cell_first (hd 0 _ rfl)
    have s1 := cell_next (hd 1 _ rfl) (by decide)
    dsimp only at r0 r1 s0 s1
    clear hc hd hz3
    have hi1 : (k : Int) < l.length := by omega
    go_wp2
    go_quiet (fail)
    go_wp2
    go_roundw
    case rel => exact ⟨k + 1, by omega, by go_num, _, rfl⟩
    case measure => simp [intOf]; omega
  · have hkf : decide ((k : Int) < (l.length : Int)) = false := by simp; omega
    go_wp2
    go_returns
    exact ⟨rfl, Ext.drewN _ _⟩

set_option maxHeartbeats 1000000 in
theorem dcurs_eq13 (u v : Value) (l : List (List UInt8 × UInt64)) (w : World) (hu : RowsOf w 2 u cucells l) (hv : RowsOf w 2 v cucells l) :
 Calls Tryd.prog 37 #[u, v] w fun e w' => e = .returned (.bool true) ∧ Ext w w' := by
 obtain ⟨ao, cap, rfl, hle, hmx, hnn, hcell⟩ := hu.open
 obtain ⟨bo, cbp, rfl, hle2, hmx2, hnn2, hcell2⟩ := hv.open
 have HC := hid hcell
 have HC2 := hid hcell2
 have HNN := hid hnn
 have HNN2 := hid hnn2
 clear hu hv hcell hcell2 hnn hnn2
 have hne : ((l.length : Int) != (l.length : Int)) = false := by simp
 go_enter Tryd.func37, Tryd.ntmps37
 go_wp2
 go_loopw [5] (fun i wr => ∃ k : Nat, k ≤ l.length ∧ i = .int .i64 k ∧ ∃ n, wr = w.drewN n) (fun i _ => l.length - (intOf i).toNat)
 case atStart => exact ⟨0, by omega, rfl, 0, rfl⟩
 case round =>
  obtain ⟨k, hk, rfl, n, rfl⟩ := hrel
  by_cases hlt : k < l.length
  · obtain ⟨a, rfl⟩ := HNN.out (by omega)
    obtain ⟨b, rfl⟩ := HNN2.out (by omega)
    have hc := HC.out a rfl k hlt
    have hd := HC2.out b rfl k hlt
    obtain ⟨z, hz3⟩ : ∃ z, l[k] = z := ⟨_, rfl⟩
    rw [hz3] at hc hd
    obtain ⟨z1, z2⟩ := z
    have r0 := cell_first (hc 0 _ rfl)
    have r1 := cell_next (hc 1 _ rfl) (by decide)
    have s0 := cell_first (hd 0 _ rfl)
    have s1 := cell_next (hd 1 _ rfl) (by decide)
    dsimp only at r0 r1 s0 s1
    clear hc hd hz3
    have hi1 : (k : Int) < l.length := by omega
    go_wp2
    go_quiet (fail)
    go_wp2
    go_roundw
    case rel => exact ⟨k + 1, by omega, by go_num, _, rfl⟩
    case measure => simp [intOf]; omega
  · have hkf : decide ((k : Int) < (l.length : Int)) = false := by simp; omega
    go_wp2
    go_returns
    exact ⟨rfl, Ext.drewN _ _⟩

set_option maxHeartbeats 2000000 in
theorem same11_13 (now next lea trn dth : UInt64) (items : List Itm) (dead : List (UInt64 × UInt64)) (curs : List (List UInt8 × UInt64)) (n nd m : Nat) (hn : items.length = n) (hnd : dead.length = nd) (hm : curs.length = m) (io do_ co jo eo fo : Option Addr) (ic dc cc jc ec fc : Nat) (w : World)
 (h1 : Its w (.slice io n ic) items) (h2 : RowsOf w 2 (.slice do_ nd dc) ddcells dead) (h3 : RowsOf w 2 (.slice co m cc) cucells curs)
 (k1 : Its w (.slice jo n jc) items) (k2 : RowsOf w 2 (.slice eo nd ec) ddcells dead) (k3 : RowsOf w 2 (.slice fo m fc) cucells curs) (hlen : n ≤ 100000) :
 Calls Tryd.prog 29 #[.agg #[uv now, uv next, uv lea, uv trn, uv dth, .slice io n ic, .slice do_ nd dc, .slice co m cc], .agg #[uv now, uv next, uv lea, uv trn, uv dth, .slice jo n jc, .slice eo nd ec, .slice fo m fc]] w fun e w' => e = .returned (.bool true) ∧ Ext w w' := by
 obtain ⟨W1, hW1⟩ : ∃ W, w.alloc (.cells #[uv now, uv next, uv lea, uv trn, uv dth, .slice io n ic, .slice do_ nd dc, .slice co m cc] 37 (0, 0)) = W := ⟨_, rfl⟩
 obtain ⟨W2, hW2⟩ : ∃ W, W1.alloc (.cells #[uv now, uv next, uv lea, uv trn, uv dth, .slice jo n jc, .slice eo nd ec, .slice fo m fc] 37 (0, 0)) = W := ⟨_, rfl⟩
 have e1 : Ext w W1 := by rw [← hW1]; exact Ext.alloc _ _
 have e2 : Ext W1 W2 := by rw [← hW2]; exact Ext.alloc _ _
 have b1 : W2.heap[w.heap.size]? = some (.cells #[uv now, uv next, uv lea, uv trn, uv dth, .slice io n ic, .slice do_ nd dc, .slice co m cc] 37 (0, 0)) := e2.obj (by rw [← hW1]; exact heap_alloc_new _ _)
 have b2 : W2.heap[W1.heap.size]? = some (.cells #[uv now, uv next, uv lea, uv trn, uv dth, .slice jo n jc, .slice eo nd ec, .slice fo m fc] 37 (0, 0)) := by rw [← hW2]; exact heap_alloc_new _ _
 have HK1 := hid b1
 have HK2 := hid b2
 have HE := hid (e1.trans e2)
 obtain ⟨-, hlec1, hcap1, hnn, hcell⟩ := (h1.ext (e1.trans e2)).opens
 obtain ⟨-, hlec2, hcap2, hnn2, hcell2⟩ := (k1.ext (e1.trans e2)).opens
 have HC := hid hcell
 have HC2 := hid hcell2
 have HNN := hid hnn
 have HNN2 := hid hnn2
 have H2 := hid (h2.ext (e1.trans e2))
 have H3 := hid (h3.ext (e1.trans e2))
 have K2 := hid (k2.ext (e1.trans e2))
 have K3 := hid (k3.ext (e1.trans e2))
 have HN := hid hn
 have n0 : ((now.toNat : Int) != (now.toNat : Int)) = false := by simp
 have n1 : ((next.toNat : Int) != (next.toNat : Int)) = false := by simp
 have n2 : ((lea.toNat : Int) != (lea.toNat : Int)) = false := by simp
 have n3 : ((trn.toNat : Int) != (trn.toNat : Int)) = false := by simp
 have n4 : ((dth.toNat : Int) != (dth.toNat : Int)) = false := by simp
 have n5 : ((n : Int) != (n : Int)) = false := by simp
 obtain ⟨⟨x0, x1, x2, x3, x4, x5, x6, x7⟩, xf⟩ := blk8s b1
 obtain ⟨⟨y0, y1, y2, y3, y4, y5, y6, y7⟩, yf⟩ := blk8s b2
 clear h1 h2 h3 k1 k2 k3 e1 e2 b1 b2 hnn hnn2 hcell hcell2 hn hnd hm xf yf
 go_enter Tryd.func29, Tryd.ntmps29
 go_wp2_with (first | rw [hW1] | rw [hW2])
 clear hW1 hW2 n0 n1 n2 n3 n4 n5
 obtain ⟨g1, hg1⟩ : ∃ g, w.heap.size = g := ⟨_, rfl⟩
 obtain ⟨g2, hg2⟩ : ∃ g, W1.heap.size = g := ⟨_, rfl⟩
 rw [hg1] at HK1 x0 x1 x2 x3 x4 x5 x6 x7
 rw [hg2] at HK2 y0 y1 y2 y3 y4 y5 y6 y7
 try rw [hg1]
 try rw [hg2]
 clear hg1 hg2 x0 x1 x2 x3 x4 x5 x6 x7 y0 y1 y2 y3 y4 y5 y6 y7
 go_loopw [5] (fun i wr => ∃ k : Nat, k ≤ n ∧ i = .int .i64 (k : Int) ∧ Hid (Ext W2 wr)) (fun i _ => n - (intOf i).toNat)
 case atStart => exact ⟨0, by omega, rfl, hid (Ext.refl _)⟩
 case round =>
  obtain ⟨k, hk, rfl, HX⟩ := hrel
  obtain ⟨⟨x0, x1, x2, x3, x4, x5, x6, x7⟩, -⟩ := blk8s (HX.out.obj HK1.out)
  obtain ⟨⟨y0, y1, y2, y3, y4, y5, y6, y7⟩, -⟩ := blk8s (HX.out.obj HK2.out)
  by_cases hlt : k < n
  · have hki : decide ((k : Int) < (n : Int)) = true := by simp; omega
    have hi1 : (k : Int) < (n : Int) := by omega
    have hltL : k < items.length := by rw [HN.out]; exact hlt
    obtain ⟨a, rfl⟩ : ∃ a, io = some a := HNN.out (by omega)
    obtain ⟨d, rfl⟩ : ∃ a, jo = some a := HNN2.out (by omega)
    have HKM := hid hlt
    have hc := fun j u h => HX.out.cell (HC.out a rfl k hltL j u h)
    have hd := fun j u h => HX.out.cell (HC2.out d rfl k hltL j u h)
    obtain ⟨z, hz2⟩ : ∃ z, items[k]'hltL = z := ⟨_, rfl⟩
    rw [hz2] at hc hd
    obtain ⟨id, la, st, ct, du, tk, tu, sg, ps, sz⟩ := z
    have r0 := cell_first (hc 0 _ rfl)
    have r1 := cell_next (hc 1 _ rfl) (by decide)
    have r2 := cell_next (hc 2 _ rfl) (by decide)
    have r3 := cell_next (hc 3 _ rfl) (by decide)
    have r4 := cell_next (hc 4 _ rfl) (by decide)
    have r5 := cell_next (hc 5 _ rfl) (by decide)
    have r6 := cell_next (hc 6 _ rfl) (by decide)
    have r7 := cell_next (hc 7 _ rfl) (by decide)
    have r8 := cell_next (hc 8 _ rfl) (by decide)
    have r9 := cell_next (hc 9 _ rfl) (by decide)
    have s0 := cell_first (hd 0 _ rfl)
    have s1 := cell_next (hd 1 _ rfl) (by decide)
    have s2 := cell_next (hd 2 _ rfl) (by decide)
    have s3 := cell_next (hd 3 _ rfl) (by decide)
    have s4 := cell_next (hd 4 _ rfl) (by decide)
    have s5 := cell_next (hd 5 _ rfl) (by decide)
    have s6 := cell_next (hd 6 _ rfl) (by decide)
    have s7 := cell_next (hd 7 _ rfl) (by decide)
    have s8 := cell_next (hd 8 _ rfl) (by decide)
    have s9 := cell_next (hd 9 _ rfl) (by decide)
    dsimp only at r0 r1 r2 r3 r4 r5 r6 r7 r8 r9 s0 s1 s2 s3 s4 s5 s6 s7 s8 s9
    have hwk : IntKind.i64.wrap ((k : Int) + 1) = ((k + 1 : Nat) : Int) := i64v _ (by omega) (by omega)
    clear hz2 hc hd hltL
    go_wp2
    go_quiet (fail)
    go_wp2
    go_roundw
    case rel => exact ⟨k + 1, HKM.out, by first | rfl | go_num, hid (HX.out.trans (Ext.drewN _ _))⟩
    case measure => have := HKM.out; simp [intOf]; omega
  · have hkf : decide ((k : Int) < (n : Int)) = false := by simp; omega
    go_wp2_with fail
    refine (drows_eq13 _ _ dead wr (H2.out.ext HX.out) (K2.out.ext HX.out)).mono ?_
    rintro e w5 ⟨rfl, hx5⟩
    have HX5 := hid (HX.out.trans hx5)
    clear x0 x1 x2 x3 x4 x5 x6 x7 y0 y1 y2 y3 y4 y5 y6 y7 hx5
    obtain ⟨⟨x0, x1, x2, x3, x4, x5, x6, x7⟩, -⟩ := blk8s (HX5.out.obj HK1.out)
    obtain ⟨⟨y0, y1, y2, y3, y4, y5, y6, y7⟩, -⟩ := blk8s (HX5.out.obj HK2.out)
    go_wp2_with fail
    refine (dcurs_eq13 _ _ curs w5 (H3.out.ext HX5.out) (K3.out.ext HX5.out)).mono ?_
    rintro e w6 ⟨rfl, hx6⟩
    have HX6 := hid (HX5.out.trans hx6)
    clear hx6
    go_wp2
    go_returns
    exact ⟨rfl, HE.out.trans HX6.out⟩

set_option maxHeartbeats 2000000 in
theorem rsame13_eq (s : Snp) (ui ud uc vi vd vc : Value) (w : World) (h : SnpIn w s ui ud uc) (k : SnpIn w s vi vd vc) (hlen : s.items.length ≤ 100000) :
 Calls Tryd.prog 16 #[.agg (snpC s ui ud uc), .agg (snpC s vi vd vc)] w fun e w' => e = .returned (.bool true) ∧ Ext w w' := by
 obtain ⟨io, ic, rfl, -⟩ := h.it.open
 obtain ⟨do_, dc, rfl, -⟩ := h.dd.open
 obtain ⟨co, cc, rfl, -⟩ := h.cu.open
 obtain ⟨jo, jc, rfl, -⟩ := k.it.open
 obtain ⟨eo, ec, rfl, -⟩ := k.dd.open
 obtain ⟨fo, fc, rfl, -⟩ := k.cu.open
 have H := hid h
 have K := hid k
 obtain ⟨now, next, lea, trn, dth, items, dead, curs, sg, ps⟩ := s
 obtain ⟨n, hn⟩ : ∃ n, items.length = n := ⟨_, rfl⟩
 obtain ⟨nd, hnd⟩ : ∃ n, dead.length = n := ⟨_, rfl⟩
 obtain ⟨m, hm⟩ : ∃ n, curs.length = n := ⟨_, rfl⟩
 have HC := hid (fun (W : World) (e : Ext w W) => same11_13 now next lea trn dth items dead curs n nd m hn hnd hm io do_ co jo eo fo ic dc cc jc ec fc W (by rw [← hn]; exact (h.ext e).it) (by rw [← hnd]; exact (h.ext e).dd) (by rw [← hm]; exact (h.ext e).cu) (by rw [← hn]; exact (k.ext e).it) (by rw [← hnd]; exact (k.ext e).dd) (by rw [← hm]; exact (k.ext e).cu) (by rw [← hn]; exact hlen))
 unfold snpC
 dsimp only
 rw [hn, hnd, hm]
 obtain ⟨W1, hW1⟩ : ∃ W, w.alloc (.cells #[uv now, uv next, uv lea, uv trn, uv dth, .slice io n ic, .slice do_ nd dc, .slice co m cc, uv sg, uv ps] 39 (0, 0)) = W := ⟨_, rfl⟩
 obtain ⟨W2, hW2⟩ : ∃ W, W1.alloc (.cells #[uv now, uv next, uv lea, uv trn, uv dth, .slice jo n jc, .slice eo nd ec, .slice fo m fc, uv sg, uv ps] 39 (0, 0)) = W := ⟨_, rfl⟩
 have e1 : Ext w W1 := by rw [← hW1]; exact Ext.alloc _ _
 have e2 : Ext W1 W2 := by rw [← hW2]; exact Ext.alloc _ _
 have b1 : W2.heap[w.heap.size]? = some (.cells #[uv now, uv next, uv lea, uv trn, uv dth, .slice io n ic, .slice do_ nd dc, .slice co m cc, uv sg, uv ps] 39 (0, 0)) := e2.obj (by rw [← hW1]; exact heap_alloc_new _ _)
 have b2 : W2.heap[W1.heap.size]? = some (.cells #[uv now, uv next, uv lea, uv trn, uv dth, .slice jo n jc, .slice eo nd ec, .slice fo m fc, uv sg, uv ps] 39 (0, 0)) := by rw [← hW2]; exact heap_alloc_new _ _
 have HK1 := hid b1
 have HK2 := hid b2
 have HE := hid (e1.trans e2)
 obtain ⟨⟨x0, x1, x2, x3, x4, x5, x6, x7, x8, x9⟩, -⟩ := blk10 b1
 obtain ⟨⟨y0, y1, y2, y3, y4, y5, y6, y7, y8, y9⟩, -⟩ := blk10 b2
 clear h k hlen hn hnd hm e1 e2 b1 b2
 go_enter Tryd.func16, Tryd.ntmps16
 go_wp2_with (first | rw [hW1] | rw [hW2])
 refine (HC.out W2 HE.out).mono ?_
 rintro e w3 ⟨rfl, hx⟩
 have HX := hid (HE.out.trans hx)
 clear x0 x1 x2 x3 x4 x5 x6 x7 x8 x9 y0 y1 y2 y3 y4 y5 y6 y7 y8 y9 hW1 hW2
 obtain ⟨⟨x0, x1, x2, x3, x4, x5, x6, x7, x8, x9⟩, -⟩ := blk10 (hx.obj HK1.out)
 obtain ⟨⟨y0, y1, y2, y3, y4, y5, y6, y7, y8, y9⟩, -⟩ := blk10 (hx.obj HK2.out)
 clear hx
 have n1 : ((sg.toNat : Int) == (sg.toNat : Int)) = true := by simp
 have n2 : ((ps.toNat : Int) == (ps.toNat : Int)) = true := by simp
 go_wp2
 go_returns
 exact ⟨by first | rfl | simp, HX.out⟩
end Go.Proofs.YtpbmbjdiilnaeaaDoor

set_option linter.unusedSimpArgs false
set_option linter.unusedVariables false
set_option maxRecDepth 100000
namespace Go.Proofs.YtpbmbjdiilnaeaaDoor
open Go Go.RowKit Go.Tum Go.ChangeMaps Go.Sort Go.Tum.Vint Go.Tum.Crc

set_option maxHeartbeats 2000000 in
theorem large13_any (v : Value) (l : List Rc) (w : World) (h : Rcs w v l) :
 Calls Tryd.prog 9 #[v] w fun e w' => (∃ r, e = .returned (.bool r) ∧ Hid (r = false → l.length ≤ 300)) ∧ Ext w w' := by
 obtain ⟨m, hm, hr, hi⟩ := h
 obtain ⟨ao, cap, rfl, hle, hmx, hnn, hcell⟩ := hr.open
 have HI := hid hi
 have HC := hid hcell
 have HNN := hid hnn
 have hml : m.length = l.length := by rw [← hm, List.length_map]
 obtain ⟨n, hn⟩ : ∃ n, m.length = n := ⟨_, rfl⟩
 rw [hn] at hle hml
 rw [hn, ← hml]
 have HN := hid hn
 clear hr hi hcell hnn hm hml hn
 by_cases h300 : 300 < n
 · have hd : decide ((300 : Int) < (n : Int)) = true := by simp; omega
   clear h300
   go_enter Tryd.func9, Tryd.ntmps9
   go_wp2
   go_returns
   exact ⟨⟨true, rfl, hid (fun h => by cases h)⟩, Ext.refl _⟩
 have hd : decide ((300 : Int) < (n : Int)) = false := by simp; omega
 have hdP : ((300 : Int) < (n : Int)) = False := by simp; omega
 have hd2 : ¬ (300 : Int) < (n : Int) := by omega
 go_enter Tryd.func9, Tryd.ntmps9
 go_wp2
 go_loopw [10] (fun i wr => ∃ k : Nat, k ≤ n ∧ i = .int .i64 (k : Int) ∧ Hid (Ext w wr)) (fun i _ => n - (intOf i).toNat)
 case atStart => exact ⟨0, Nat.zero_le _, rfl, hid (Ext.refl _)⟩
 case round =>
  obtain ⟨k, hk, rfl, HE⟩ := hrel
  by_cases hlt : k < n
  · have hkj : decide ((k : Int) < (n : Int)) = true := by simp; omega
    have hkj2 : (k : Int) < (n : Int) := by omega
    obtain ⟨g, rfl⟩ := HNN.out (by omega)
    have hltL : k < m.length := by rw [HN.out]; exact hlt
    have hc := fun j u h => HE.out.cell (HC.out g rfl k hltL j u h)
    have hvec := HI.out _ (List.getElem_mem hltL)
    obtain ⟨o, ho⟩ : ∃ o, m[k]'hltL = o := ⟨_, rfl⟩
    rw [ho] at hc hvec
    obtain ⟨⟨kd, ns, tx⟩, r⟩ := o
    dsimp only at hvec
    obtain ⟨ro, rc, rfl, -⟩ := hvec.open
    have k0 := cell_first (hc 0 _ rfl)
    have k1 := cell_next (hc 1 _ rfl) (by decide)
    have k2 := cell_next (hc 2 _ rfl) (by decide)
    dsimp only at k0 k1 k2
    obtain ⟨W1, hW1⟩ : ∃ W, wr.alloc (.cells #[.int .i64 kd, .slice ro ns.length rc, .string (str tx)] 62 (0, 0)) = W := ⟨_, rfl⟩
    have hE1 := Ext.alloc wr (.cells #[.int .i64 kd, .slice ro ns.length rc, .string (str tx)] 62 (0, 0))
    have hb1 := heap_alloc_new wr (.cells #[.int .i64 kd, .slice ro ns.length rc, .string (str tx)] 62 (0, 0))
    rw [hW1] at hE1 hb1
    have y0 : W1.cell? ⟨wr.heap.size, 0, none⟩ = some (.int .i64 kd) := by rw [cell_of_row _ _ _ _ _ _ hb1]; rfl
    have y1 : W1.cell? ⟨wr.heap.size, 1, none⟩ = some (.slice ro ns.length rc) := by rw [cell_of_row _ _ _ _ _ _ hb1]; rfl
    have y2 : W1.cell? ⟨wr.heap.size, 2, none⟩ = some (.string (str tx)) := by rw [cell_of_row _ _ _ _ _ _ hb1]; rfl
    have HX1 := hid (HE.out.trans hE1)
    have HLK := hid hlt
    have hwk : IntKind.i64.wrap ((k : Int) + 1) = ((k + 1 : Nat) : Int) := i64v _ (by omega) (by omega)
    have hcl := large_any ⟨kd, ns, tx⟩ (.slice ro ns.length rc) W1 (hvec.ext HX1.out)
    obtain ⟨R, hR⟩ : ∃ R, largeB ⟨kd, ns, tx⟩ = R := ⟨_, rfl⟩
    rw [hR] at hcl
    have HC1 := hid hcl
    clear hc ho hE1 hb1 hltL hlt HE hvec hcl hR
    go_wp2_with rw [hW1]
    refine HC1.out.mono ?_
    rintro e w2 ⟨rfl, hx⟩
    have HX2 := hid (HX1.out.trans hx)
    clear hx HC1 HX1 k0 k1 k2 y0 y1 y2 hW1
    cases R
    case false =>
     go_wp2
     go_roundw
     case rel => exact ⟨k + 1, HLK.out, by first | rfl | go_num, HX2⟩
     case measure => have := HLK.out; simp [intOf]; omega
    case true =>
     go_wp2
     go_returns
     exact ⟨⟨true, rfl, hid (fun h => by cases h)⟩, HX2.out⟩
  have hkf : decide ((k : Int) < (n : Int)) = false := by simp; omega
  have hkf2 : (k < n) = False := by simp; omega
  go_wp2
  go_returns
  exact ⟨⟨false, rfl, hid (fun _ => by omega)⟩, HE.out⟩
/-- A state that is not large. -/
structure SmP (s : Snp) : Prop where
 it : s.items.length ≤ 220
 dd : s.dead.length ≤ 220
 cu : s.curs.length ≤ 20
set_option maxHeartbeats 2000000 in
theorem rlarge13_any (now next lea trn dth : UInt64) (n nd m : Nat) (io do_ co : Option Addr) (ic dc cc : Nat) (curs : List (List UInt8 × UInt64)) (w : World) (h : RowsOf w 2 (.slice co m cc) cucells curs) (hm : curs.length = m) :
 Calls Tryd.prog 7 #[.agg #[uv now, uv next, uv lea, uv trn, uv dth, .slice io n ic, .slice do_ nd dc, .slice co m cc]] w fun e w' => (∃ r, e = .returned (.bool r) ∧ Hid (r = false → n ≤ 220 ∧ nd ≤ 220 ∧ m ≤ 20)) ∧ Ext w w' := by
 obtain ⟨-, hle, hmx, hnn, hcell⟩ := h.opens
 have HC := hid hcell
 have HNN := hid hnn
 have HM := hid hm
 obtain ⟨W1, hW1⟩ : ∃ W, w.alloc (.cells #[uv now, uv next, uv lea, uv trn, uv dth, .slice io n ic, .slice do_ nd dc, .slice co m cc] 37 (0, 0)) = W := ⟨_, rfl⟩
 have e1 := Ext.alloc w (.cells #[uv now, uv next, uv lea, uv trn, uv dth, .slice io n ic, .slice do_ nd dc, .slice co m cc] 37 (0, 0))
 have b1 := heap_alloc_new w (.cells #[uv now, uv next, uv lea, uv trn, uv dth, .slice io n ic, .slice do_ nd dc, .slice co m cc] 37 (0, 0))
 rw [hW1] at e1 b1
 have HE1 := hid e1
 have HB1 := hid b1
 obtain ⟨⟨x0, x1, x2, x3, x4, x5, x6, x7⟩, xf⟩ := blk8s b1
 clear h hcell hnn hm e1 b1 xf
 by_cases q1 : 220 < n
 · have d1 : decide ((220 : Int) < (n : Int)) = true := by simp; omega
   clear q1
   go_enter Tryd.func7, Tryd.ntmps7
   go_wp2_with rw [hW1]
   go_returns
   exact ⟨⟨true, rfl, hid (fun h => by cases h)⟩, HE1.out⟩
 have d1 : decide ((220 : Int) < (n : Int)) = false := by simp; omega
 by_cases q2 : 220 < nd
 · have d2 : decide ((220 : Int) < (nd : Int)) = true := by simp; omega
   clear q1 q2
   go_enter Tryd.func7, Tryd.ntmps7
   go_wp2_with rw [hW1]
   go_returns
   exact ⟨⟨true, rfl, hid (fun h => by cases h)⟩, HE1.out⟩
 have d2 : decide ((220 : Int) < (nd : Int)) = false := by simp; omega
 by_cases q3 : 20 < m
 · have d3 : decide ((20 : Int) < (m : Int)) = true := by simp; omega
   clear q1 q2 q3
   go_enter Tryd.func7, Tryd.ntmps7
   go_wp2_with rw [hW1]
   go_returns
   exact ⟨⟨true, rfl, hid (fun h => by cases h)⟩, HE1.out⟩
 have d3 : decide ((20 : Int) < (m : Int)) = false := by simp; omega
 have HS : Hid (n ≤ 220 ∧ nd ≤ 220 ∧ m ≤ 20) := hid (by omega)
 have hm20 : m ≤ 20 := by omega
 clear q1 q2 q3
 go_enter Tryd.func7, Tryd.ntmps7
 go_wp2_with rw [hW1]
 clear x0 x1 x2 x3 x4 x5 x6 x7 hW1 d1 d2 d3
 go_loopw [3] (fun i wr => ∃ k : Nat, k ≤ m ∧ i = .int .i64 (k : Int) ∧ Hid (Ext W1 wr)) (fun i _ => m - (intOf i).toNat)
 case atStart => exact ⟨0, by omega, rfl, hid (Ext.refl _)⟩
 case round =>
  obtain ⟨k, hk, rfl, HX⟩ := hrel
  obtain ⟨⟨x0, x1, x2, x3, x4, x5, x6, x7⟩, -⟩ := blk8s (HX.out.obj HB1.out)
  by_cases hlt : k < m
  · have hki : decide ((k : Int) < (m : Int)) = true := by simp; omega
    have hi1 : (k : Int) < (m : Int) := by omega
    have hltL : k < curs.length := by rw [HM.out]; exact hlt
    obtain ⟨a, rfl⟩ : ∃ a, co = some a := HNN.out (by omega)
    have HKM := hid hlt
    have hc := (HE1.out.trans HX.out).cell (HC.out a rfl k hltL 0 _ rfl)
    obtain ⟨z, hz2⟩ : ∃ z, curs[k]'hltL = z := ⟨_, rfl⟩
    rw [hz2] at hc
    obtain ⟨nm, pl⟩ := z
    have r0 := cell_first hc
    dsimp only at r0
    have hwk : IntKind.i64.wrap ((k : Int) + 1) = ((k + 1 : Nat) : Int) := i64v _ (by omega) (by omega)
    have hsz := str_size nm
    clear hz2 hc hltL
    by_cases q4 : 300 < nm.length
    · have d4 : decide ((300 : Int) < (nm.length : Int)) = true := by simp; omega
      clear q4
      go_wp2
      go_returns
      exact ⟨⟨true, rfl, hid (fun h => by cases h)⟩, HE1.out.trans HX.out⟩
    have d4 : decide ((300 : Int) < (nm.length : Int)) = false := by simp; omega
    clear q4
    go_wp2
    go_roundw
    case rel => exact ⟨k + 1, HKM.out, by first | rfl | go_num, HX⟩
    case measure => have := HKM.out; simp [intOf]; omega
  · have hkf : decide ((k : Int) < (m : Int)) = false := by simp; omega
    go_wp2
    go_returns
    exact ⟨⟨false, rfl, hid (fun _ => HS.out)⟩, HE1.out.trans HX.out⟩
end Go.Proofs.YtpbmbjdiilnaeaaDoor

set_option linter.unusedSimpArgs false
set_option linter.unusedVariables false
set_option maxRecDepth 100000
namespace Go.Proofs.YtpbmbjdiilnaeaaDoor
open Go Go.RowKit Go.Tum Go.ChangeMaps Go.Sort Go.Tum.Vint Go.Tum.Crc Go.WideShapes Go.ChangeShapes Go.Deep
theorem ofNat_toNatList (s : ByteArray) : str s.data.toList = s := by
 apply ByteArray.ext
 simp [str]
section
variable {H : Type} {enc : TypeId × Value → H} {w : World} {base : Nat} {held : Bool}
theorem open_itemsZ {fuel : Nat} {v : Value} {x : DataW H × List MemPlace} (hf : DataW.trod enc Tryd.prog w base (fun _ => true) held fuel 23 [v] = some x) : ∃ m : List Itm, Sl w 10 v m.length (m.flatMap itcells) ∧ (m = [] ∨ ∃ es sp, x.1 = .slice es sp ∧ es.length = m.length) := by
 rcases open_slice Tryd.underlying23 hf with ⟨h0, _⟩ | ⟨a, len, cap, m, n0, D, Pl, hcs, hb, hl, hm, hmm, hx, hi⟩
 · simp at h0
   subst h0
   exact ⟨[], Sl.nil _ _, .inl rfl⟩
 · simp at hcs
   subst hcs
   simp at hmm
   subst hmm
   have hrow : ∀ i, i < len → ∃ q : Itm, ∀ j u, (itcells q)[j]? = some u → w.cell? (a.add (i * 10 + j)) = some u := by
    intro i hil
    obtain ⟨cs', hc, htr⟩ := hi i (by omega)
    rw [cellsItS] at hc
    obtain ⟨_, hcl, hat⟩ := World.cells?_some hc
    obtain ⟨ys, n', -, -, -, hyl, hfj⟩ := DataW.trod_struct Tryd.underlying69 htr
    obtain ⟨c0, c1, c2, c3, c4, c5, c6, c7, c8, c9, rfl⟩ := list10 hcl
    have hcell : ∀ j u, [c0, c1, c2, c3, c4, c5, c6, c7, c8, c9][j]? = some u → w.cell? (a.add (i * 10 + j)) = some u := by
     intro j u hu
     have hj : j < 10 := (List.getElem?_eq_some_iff.1 hu).1
     have h1 := hat j hj
     rw [Go.Deep.add_add] at h1
     rw [h1, hu]
    have t0 : DataW.trod enc Tryd.prog w base (fun _ => true) held n' 22 (([c0, c1, c2, c3, c4, c5, c6, c7, c8, c9].drop 0).take (Tryd.prog.cellsOf 22)) = ys[0]? := hfj 0 _ rfl
    have t1 : DataW.trod enc Tryd.prog w base (fun _ => true) held n' 3 (([c0, c1, c2, c3, c4, c5, c6, c7, c8, c9].drop 1).take (Tryd.prog.cellsOf 3)) = ys[1]? := hfj 1 _ rfl
    have t2 : DataW.trod enc Tryd.prog w base (fun _ => true) held n' 65 (([c0, c1, c2, c3, c4, c5, c6, c7, c8, c9].drop 2).take (Tryd.prog.cellsOf 65)) = ys[2]? := hfj 2 _ rfl
    have t3 : DataW.trod enc Tryd.prog w base (fun _ => true) held n' 22 (([c0, c1, c2, c3, c4, c5, c6, c7, c8, c9].drop 6).take (Tryd.prog.cellsOf 22)) = ys[3]? := hfj 3 _ rfl
    have t4 : DataW.trod enc Tryd.prog w base (fun _ => true) held n' 67 (([c0, c1, c2, c3, c4, c5, c6, c7, c8, c9].drop 7).take (Tryd.prog.cellsOf 67)) = ys[4]? := hfj 4 _ rfl
    have hyl : ys.length = 5 := hyl
    rw [cellsUx] at t0 t3
    rw [cellsIx] at t1
    rw [cellsLfS] at t2
    rw [cellsWh] at t4
    have g0 : DataW.trod enc Tryd.prog w base (fun _ => true) held n' 22 [c0] = _ := t0.trans (List.getElem?_eq_getElem (show 0 < ys.length by omega))
    have g1 : DataW.trod enc Tryd.prog w base (fun _ => true) held n' 3 [c1] = _ := t1.trans (List.getElem?_eq_getElem (show 1 < ys.length by omega))
    have g2 : DataW.trod enc Tryd.prog w base (fun _ => true) held n' 65 [c2, c3, c4, c5] = _ := t2.trans (List.getElem?_eq_getElem (show 2 < ys.length by omega))
    have g3 : DataW.trod enc Tryd.prog w base (fun _ => true) held n' 22 [c6] = _ := t3.trans (List.getElem?_eq_getElem (show 3 < ys.length by omega))
    have g4 : DataW.trod enc Tryd.prog w base (fun _ => true) held n' 67 [c7, c8, c9] = _ := t4.trans (List.getElem?_eq_getElem (show 4 < ys.length by omega))
    obtain ⟨z0, e0, -, w0⟩ := DataW.trod_int Tryd.underlying22 g0
    obtain ⟨z1, e1, -, w1⟩ := DataW.trod_int Tryd.underlying3 g1
    obtain ⟨st, ct, du, tk, e2⟩ := open_lifeS g2
    obtain ⟨z3, e3, -, w3⟩ := DataW.trod_int Tryd.underlying22 g3
    obtain ⟨sg, ps, sz, e4⟩ := open_where g4
    obtain ⟨u0, rfl⟩ := u64_of w0
    obtain ⟨u3, rfl⟩ := u64_of w3
    simp only [List.cons.injEq, and_true] at e0 e1 e2 e3 e4
    obtain ⟨rfl, rfl, rfl, rfl⟩ := e2
    obtain ⟨rfl, rfl, rfl⟩ := e4
    subst e0 e1 e3
    exact ⟨⟨u0, z1, st, ct, du, tk, u3, sg, ps, sz⟩, fun j u hu => hcell j u hu⟩
   obtain ⟨q, hq, hQ⟩ := list_of len hrow
   exact ⟨q, (RowsOf.mk' (c := itcells) hq hl hm (by decide) (fun _ _ => rfl) (fun i h j u hu => hQ i h j u hu)).2, .inr ⟨(List.range len).map D, _, by rw [hx], by rw [List.length_map, List.length_range, hq]⟩⟩
theorem open_rowsZ {fuel : Nat} {v : Value} {x : DataW H × List MemPlace} (hf : DataW.trod enc Tryd.prog w base (fun _ => true) held fuel 24 [v] = some x) : ∃ m : List (UInt64 × UInt64), Sl w 2 v m.length (m.flatMap ddcells) ∧ (m = [] ∨ ∃ es sp, x.1 = .slice es sp ∧ es.length = m.length) := by
 rcases open_slice Tryd.underlying24 hf with ⟨h0, _⟩ | ⟨a, len, cap, m, n0, D, Pl, hcs, hb, hl, hm, hmm, hx, hi⟩
 · simp at h0
   subst h0
   exact ⟨[], Sl.nil _ _, .inl rfl⟩
 · simp at hcs
   subst hcs
   simp at hmm
   subst hmm
   have hrow : ∀ i, i < len → ∃ q : UInt64 × UInt64, ∀ j u, (ddcells q)[j]? = some u → w.cell? (a.add (i * 2 + j)) = some u := by
    intro i hil
    obtain ⟨cs', hc, htr⟩ := hi i (by omega)
    rw [cellsRwS] at hc
    obtain ⟨_, hcl, hat⟩ := World.cells?_some hc
    obtain ⟨ys, n', -, -, -, hyl, hfj⟩ := DataW.trod_struct Tryd.underlying75 htr
    obtain ⟨c0, c1, rfl⟩ := list2 hcl
    have hcell : ∀ j u, [c0, c1][j]? = some u → w.cell? (a.add (i * 2 + j)) = some u := by
     intro j u hu
     have hj : j < 2 := (List.getElem?_eq_some_iff.1 hu).1
     have h1 := hat j hj
     rw [Go.Deep.add_add] at h1
     rw [h1, hu]
    have k0 := hcell 0 c0 rfl
    have k1 := hcell 1 c1 rfl
    have t0 : DataW.trod enc Tryd.prog w base (fun _ => true) held n' 22 (([c0, c1].drop 0).take (Tryd.prog.cellsOf 22)) = ys[0]? := hfj 0 _ rfl
    have t1 : DataW.trod enc Tryd.prog w base (fun _ => true) held n' 22 (([c0, c1].drop 1).take (Tryd.prog.cellsOf 22)) = ys[1]? := hfj 1 _ rfl
    have hyl : ys.length = 2 := hyl
    rw [cellsUx] at t0
    rw [cellsUx] at t1
    replace t0 : DataW.trod enc Tryd.prog w base (fun _ => true) held n' 22 [c0] = _ := t0.trans (List.getElem?_eq_getElem (show 0 < ys.length by omega))
    replace t1 : DataW.trod enc Tryd.prog w base (fun _ => true) held n' 22 [c1] = _ := t1.trans (List.getElem?_eq_getElem (show 1 < ys.length by omega))
    obtain ⟨z0, e, -, hw0⟩ := DataW.trod_int Tryd.underlying22 t0
    simp at e; subst e
    obtain ⟨x0, rfl⟩ := u64_of hw0
    obtain ⟨z1, e, -, hw1⟩ := DataW.trod_int Tryd.underlying22 t1
    simp at e; subst e
    obtain ⟨x1, rfl⟩ := u64_of hw1
    refine ⟨(x0, x1), fun j u hu => ?_⟩
    match j, hu with
    | 0, hu => simp [ddcells, cucells] at hu; subst hu; exact k0
    | 1, hu => simp [ddcells, cucells] at hu; subst hu; exact k1
   obtain ⟨q, hq, hQ⟩ := list_of len hrow
   exact ⟨q, (RowsOf.mk' (c := ddcells) hq hl hm (by decide) (fun _ _ => rfl) (fun i h j u hu => hQ i h j u hu)).2, .inr ⟨(List.range len).map D, _, by rw [hx], by rw [List.length_map, List.length_range, hq]⟩⟩
theorem open_cursZ {fuel : Nat} {v : Value} {x : DataW H × List MemPlace} (hf : DataW.trod enc Tryd.prog w base (fun _ => true) held fuel 25 [v] = some x) : ∃ m : List (List UInt8 × UInt64), Sl w 2 v m.length (m.flatMap cucells) ∧ (m = [] ∨ ∃ es sp, x.1 = .slice es sp ∧ es.length = m.length) := by
 rcases open_slice Tryd.underlying25 hf with ⟨h0, _⟩ | ⟨a, len, cap, m, n0, D, Pl, hcs, hb, hl, hm, hmm, hx, hi⟩
 · simp at h0
   subst h0
   exact ⟨[], Sl.nil _ _, .inl rfl⟩
 · simp at hcs
   subst hcs
   simp at hmm
   subst hmm
   have hrow : ∀ i, i < len → ∃ q : List UInt8 × UInt64, q.1.length ≤ maxLen ∧ ∀ j u, (cucells q)[j]? = some u → w.cell? (a.add (i * 2 + j)) = some u := by
    intro i hil
    obtain ⟨cs', hc, htr⟩ := hi i (by omega)
    rw [cellsCrS] at hc
    obtain ⟨_, hcl, hat⟩ := World.cells?_some hc
    obtain ⟨ys, n', -, -, -, hyl, hfj⟩ := DataW.trod_struct Tryd.underlying77 htr
    obtain ⟨c0, c1, rfl⟩ := list2 hcl
    have hcell : ∀ j u, [c0, c1][j]? = some u → w.cell? (a.add (i * 2 + j)) = some u := by
     intro j u hu
     have hj : j < 2 := (List.getElem?_eq_some_iff.1 hu).1
     have h1 := hat j hj
     rw [Go.Deep.add_add] at h1
     rw [h1, hu]
    have k0 := hcell 0 c0 rfl
    have k1 := hcell 1 c1 rfl
    have t0 : DataW.trod enc Tryd.prog w base (fun _ => true) held n' 9 (([c0, c1].drop 0).take (Tryd.prog.cellsOf 9)) = ys[0]? := hfj 0 _ rfl
    have t1 : DataW.trod enc Tryd.prog w base (fun _ => true) held n' 22 (([c0, c1].drop 1).take (Tryd.prog.cellsOf 22)) = ys[1]? := hfj 1 _ rfl
    have hyl : ys.length = 2 := hyl
    rw [cellsSx] at t0
    rw [cellsUx] at t1
    replace t0 : DataW.trod enc Tryd.prog w base (fun _ => true) held n' 9 [c0] = _ := t0.trans (List.getElem?_eq_getElem (show 0 < ys.length by omega))
    replace t1 : DataW.trod enc Tryd.prog w base (fun _ => true) held n' 22 [c1] = _ := t1.trans (List.getElem?_eq_getElem (show 1 < ys.length by omega))
    obtain ⟨s0, e, -, hs0⟩ := DataW.trod_string Tryd.underlying9 t0
    simp at e; subst e
    obtain ⟨z1, e, -, hw1⟩ := DataW.trod_int Tryd.underlying22 t1
    simp at e; subst e
    obtain ⟨x1, rfl⟩ := u64_of hw1
    refine ⟨(s0.data.toList, x1), nmI_len hs0, fun j u hu => ?_⟩
    match j, hu with
    | 0, hu => simp [ddcells, cucells] at hu; subst hu; rw [nmI_of s0] at k0; exact k0
    | 1, hu => simp [ddcells, cucells] at hu; subst hu; exact k1
   obtain ⟨q, hq, hQ⟩ := list_of len hrow
   exact ⟨q, (RowsOf.mk' (c := cucells) hq hl hm (by decide) (fun _ _ => rfl) (fun i h j u hu => (hQ i h).2 j u hu)).2, .inr ⟨(List.range len).map D, _, by rw [hx], by rw [List.length_map, List.length_range, hq]⟩⟩
theorem open_stateZ {fuel : Nat} {c0 c1 c2 c3 c4 c5 c6 c7 : Value} {x : DataW H × List MemPlace} (hf : DataW.trod enc Tryd.prog w base (fun _ => true) held fuel 27 [c0, c1, c2, c3, c4, c5, c6, c7] = some x) :
 ∃ (n0 n1 n2 n3 n4 : UInt64) (it : List Itm) (dd : List (UInt64 × UInt64)) (cu : List (List UInt8 × UInt64)), [c0, c1, c2, c3, c4] = [uv n0, uv n1, uv n2, uv n3, uv n4] ∧ RowsOf w 10 c5 itcells it ∧ RowsOf w 2 c6 ddcells dd ∧ RowsOf w 2 c7 cucells cu ∧ ∃ parts : List (DataW H), x.1 = .agg parts ∧ (it = [] ∨ ∃ es sp, parts[5]? = some (.slice es sp) ∧ es.length = it.length) ∧ (dd = [] ∨ ∃ es sp, parts[6]? = some (.slice es sp) ∧ es.length = dd.length) ∧ (cu = [] ∨ ∃ es sp, parts[7]? = some (.slice es sp) ∧ es.length = cu.length) := by
 obtain ⟨ys, n', -, hyx, -, hyl, hfj⟩ := DataW.trod_struct Tryd.underlying27 hf
 have hu : ∀ (j : Nat) (hj : j < 5), DataW.trod enc Tryd.prog w base (fun _ => true) held n' 22 (([c0, c1, c2, c3, c4, c5, c6, c7].drop j).take 1) = ys[j]? := by
  intro j hj
  rw [← cellsUx]
  match j, hj with
  | 0, _ => exact hfj 0 _ rfl
  | 1, _ => exact hfj 1 _ rfl
  | 2, _ => exact hfj 2 _ rfl
  | 3, _ => exact hfj 3 _ rfl
  | 4, _ => exact hfj 4 _ rfl
 have t5 : DataW.trod enc Tryd.prog w base (fun _ => true) held n' 23 (([c0, c1, c2, c3, c4, c5, c6, c7].drop 5).take (Tryd.prog.cellsOf 23)) = ys[5]? := hfj 5 _ rfl
 have t6 : DataW.trod enc Tryd.prog w base (fun _ => true) held n' 24 (([c0, c1, c2, c3, c4, c5, c6, c7].drop 6).take (Tryd.prog.cellsOf 24)) = ys[6]? := hfj 6 _ rfl
 have t7 : DataW.trod enc Tryd.prog w base (fun _ => true) held n' 25 (([c0, c1, c2, c3, c4, c5, c6, c7].drop 7).take (Tryd.prog.cellsOf 25)) = ys[7]? := hfj 7 _ rfl
 have hyl : ys.length = 8 := hyl
 rw [cellsSlI] at t5
 rw [cellsSlR] at t6
 rw [cellsSlC] at t7
 have g0 : DataW.trod enc Tryd.prog w base (fun _ => true) held n' 22 [c0] = _ := (hu 0 (by decide)).trans (List.getElem?_eq_getElem (show 0 < ys.length by omega))
 have g1 : DataW.trod enc Tryd.prog w base (fun _ => true) held n' 22 [c1] = _ := (hu 1 (by decide)).trans (List.getElem?_eq_getElem (show 1 < ys.length by omega))
 have g2 : DataW.trod enc Tryd.prog w base (fun _ => true) held n' 22 [c2] = _ := (hu 2 (by decide)).trans (List.getElem?_eq_getElem (show 2 < ys.length by omega))
 have g3 : DataW.trod enc Tryd.prog w base (fun _ => true) held n' 22 [c3] = _ := (hu 3 (by decide)).trans (List.getElem?_eq_getElem (show 3 < ys.length by omega))
 have g4 : DataW.trod enc Tryd.prog w base (fun _ => true) held n' 22 [c4] = _ := (hu 4 (by decide)).trans (List.getElem?_eq_getElem (show 4 < ys.length by omega))
 have g5 : DataW.trod enc Tryd.prog w base (fun _ => true) held n' 23 [c5] = _ := t5.trans (List.getElem?_eq_getElem (show 5 < ys.length by omega))
 have g6 : DataW.trod enc Tryd.prog w base (fun _ => true) held n' 24 [c6] = _ := t6.trans (List.getElem?_eq_getElem (show 6 < ys.length by omega))
 have g7 : DataW.trod enc Tryd.prog w base (fun _ => true) held n' 25 [c7] = _ := t7.trans (List.getElem?_eq_getElem (show 7 < ys.length by omega))
 obtain ⟨z0, e0, -, w0⟩ := DataW.trod_int Tryd.underlying22 g0
 obtain ⟨z1, e1, -, w1⟩ := DataW.trod_int Tryd.underlying22 g1
 obtain ⟨z2, e2, -, w2⟩ := DataW.trod_int Tryd.underlying22 g2
 obtain ⟨z3, e3, -, w3⟩ := DataW.trod_int Tryd.underlying22 g3
 obtain ⟨z4, e4, -, w4⟩ := DataW.trod_int Tryd.underlying22 g4
 obtain ⟨u0, rfl⟩ := u64_of w0
 obtain ⟨u1, rfl⟩ := u64_of w1
 obtain ⟨u2, rfl⟩ := u64_of w2
 obtain ⟨u3, rfl⟩ := u64_of w3
 obtain ⟨u4, rfl⟩ := u64_of w4
 simp only [List.cons.injEq, and_true] at e0 e1 e2 e3 e4
 subst e0 e1 e2 e3 e4
 obtain ⟨m5, h5, w5⟩ := open_itemsZ g5
 obtain ⟨m6, h6, w6⟩ := open_rowsZ g6
 obtain ⟨m7, h7, w7⟩ := open_cursZ g7
 have pt : ∀ (j : Nat) (hj : j < ys.length), (ys.map (·.1))[j]? = some (ys[j]'hj).1 := fun j hj => by rw [List.getElem?_map, List.getElem?_eq_getElem hj]; rfl
 refine ⟨u0, u1, u2, u3, u4, m5, m6, m7, rfl, ⟨fun _ _ => rfl, h5⟩, ⟨fun _ _ => rfl, h6⟩, ⟨fun _ _ => rfl, h7⟩, ys.map (·.1), by rw [hyx], ?_, ?_, ?_⟩
 · rcases w5 with h | ⟨es, sp, h1, h2⟩
   · exact .inl h
   · exact .inr ⟨es, sp, by rw [pt 5 (by omega), h1], h2⟩
 · rcases w6 with h | ⟨es, sp, h1, h2⟩
   · exact .inl h
   · exact .inr ⟨es, sp, by rw [pt 6 (by omega), h1], h2⟩
 · rcases w7 with h | ⟨es, sp, h1, h2⟩
   · exact .inl h
   · exact .inr ⟨es, sp, by rw [pt 7 (by omega), h1], h2⟩
theorem open_snapZ {v : Value} {d : DataW H} {p : List MemPlace} {r : Reach} {b0 : Nat} (hval : Value.okWide Tryd.prog w r b0 29 v) (h : DataW.Trod enc Tryd.prog w base (fun _ => true) held 29 v d p) :
 ∃ (s : Snp) (vi vd vc : Value), v = .agg (snpC s vi vd vc) ∧ SnpIn w s vi vd vc ∧ ∃ (top parts : List (DataW H)), d = .agg top ∧ top[0]? = some (.agg parts) ∧ (s.items = [] ∨ ∃ es sp, parts[5]? = some (.slice es sp) ∧ es.length = s.items.length) ∧ (s.dead = [] ∨ ∃ es sp, parts[6]? = some (.slice es sp) ∧ es.length = s.dead.length) ∧ (s.curs = [] ∨ ∃ es sp, parts[7]? = some (.slice es sp) ∧ es.length = s.curs.length) := by
 obtain ⟨cs, rfl, hsz⟩ := okWide_struct Tryd.underlying29 hval
 have hsz := hsz.trans cellsSnp
 obtain ⟨c0, c1, c2, c3, c4, c5, c6, c7, c8, c9, rfl⟩ : ∃ a b c d e f g i j k, cs = #[a, b, c, d, e, f, g, i, j, k] := by
  obtain ⟨l⟩ := cs
  match l, hsz with
  | [a, b, c, d, e, f, g, i, j, k], _ => exact ⟨a, b, c, d, e, f, g, i, j, k, rfl⟩
 obtain ⟨fuel, hf⟩ := h
 replace hf : DataW.trod enc Tryd.prog w base (fun _ => true) held fuel 29 [c0, c1, c2, c3, c4, c5, c6, c7, c8, c9] = some (d, p) := hf
 obtain ⟨ys, n', -, hyx, -, hyl, hfj⟩ := DataW.trod_struct Tryd.underlying29 hf
 have t0 : DataW.trod enc Tryd.prog w base (fun _ => true) held n' 27 (([c0, c1, c2, c3, c4, c5, c6, c7, c8, c9].drop 0).take (Tryd.prog.cellsOf 27)) = ys[0]? := hfj 0 _ rfl
 have t1 : DataW.trod enc Tryd.prog w base (fun _ => true) held n' 22 (([c0, c1, c2, c3, c4, c5, c6, c7, c8, c9].drop 8).take (Tryd.prog.cellsOf 22)) = ys[1]? := hfj 1 _ rfl
 have t2 : DataW.trod enc Tryd.prog w base (fun _ => true) held n' 22 (([c0, c1, c2, c3, c4, c5, c6, c7, c8, c9].drop 9).take (Tryd.prog.cellsOf 22)) = ys[2]? := hfj 2 _ rfl
 have hyl : ys.length = 3 := hyl
 rw [cellsStS] at t0
 rw [cellsUx] at t1 t2
 have g0 : DataW.trod enc Tryd.prog w base (fun _ => true) held n' 27 [c0, c1, c2, c3, c4, c5, c6, c7] = _ := t0.trans (List.getElem?_eq_getElem (show 0 < ys.length by omega))
 have g1 : DataW.trod enc Tryd.prog w base (fun _ => true) held n' 22 [c8] = _ := t1.trans (List.getElem?_eq_getElem (show 1 < ys.length by omega))
 have g2 : DataW.trod enc Tryd.prog w base (fun _ => true) held n' 22 [c9] = _ := t2.trans (List.getElem?_eq_getElem (show 2 < ys.length by omega))
 obtain ⟨n0, n1, n2, n3, n4, it, dd, cu, e0, hi, hd, hc, parts, hpx, w5, w6, w7⟩ := open_stateZ g0
 obtain ⟨z1, e1, -, w1⟩ := DataW.trod_int Tryd.underlying22 g1
 obtain ⟨z2, e2, -, w2⟩ := DataW.trod_int Tryd.underlying22 g2
 obtain ⟨u1, rfl⟩ := u64_of w1
 obtain ⟨u2, rfl⟩ := u64_of w2
 simp only [List.cons.injEq, and_true] at e0 e1 e2
 obtain ⟨rfl, rfl, rfl, rfl, rfl⟩ := e0
 subst e1 e2
 have hyx1 : d = .agg (ys.map (·.1)) := by have h := congrArg Prod.fst hyx; exact h
 exact ⟨⟨n0, n1, n2, n3, n4, it, dd, cu, u1, u2⟩, c5, c6, c7, rfl, ⟨hi, hd, hc⟩, ys.map (·.1), parts, hyx1, by rw [List.getElem?_map, List.getElem?_eq_getElem (show 0 < ys.length by omega)]; show some (ys[0]).1 = _; rw [hpx], w5, w6, w7⟩
theorem snap_small {ts : List TypeId} {ds : List (DataW H)} (hz : (DataW.weightsEach Tryd.prog ts ds).all (· ≤ reachBytes) = true) {j : Nat} {d : DataW H} (ht : ts[j]? = some 29) (hd : ds[j]? = some d) {top parts : List (DataW H)} (h1 : d = .agg top) (h2 : top[0]? = some (.agg parts)) {k : Nat} {T e : TypeId} {n b : Nat}
 (hT : ((Tryd.prog.underlying 27).bind fun x => match x with | .struct fs => (fs.toList.map (·.type))[k]? | _ => none) = some T) (hu : Tryd.prog.underlying T = some (.slice e)) (hb : Tryd.prog.bytesOf e = b) (hn : n = 0 ∨ ∃ es sp, parts[k]? = some (.slice es sp) ∧ es.length = n) : n * b ≤ 140737488355328 := by
 rcases hn with rfl | ⟨es, sp, h3, rfl⟩
 · simp
 · subst h1
   rw [Tryd.underlying27] at hT
   have m2 : (es.length + sp.length) * Tryd.prog.bytesOf e ∈ DataW.weights Tryd.prog 27 (.agg parts) := by
    unfold DataW.weights
    rw [Tryd.underlying27]
    exact DataW.weights_mem_each hT h3 _ (by simp [DataW.weights, hu])
   have m3 : (es.length + sp.length) * Tryd.prog.bytesOf e ∈ DataW.weights Tryd.prog 29 (.agg top) := by
    unfold DataW.weights
    rw [Tryd.underlying29]
    exact DataW.weights_mem_each (j := 0) (t := 27) rfl h2 _ m2
   have m4 := List.all_eq_true.1 hz _ (DataW.weights_mem_each ht hd _ m3)
   have h4 : (es.length + sp.length) * Tryd.prog.bytesOf e ≤ reachBytes := by simpa using m4
   have h5 := reachBytes_lt
   rw [hb] at h4
   have h6 : es.length * b ≤ (es.length + sp.length) * b := Nat.mul_le_mul_right _ (by omega)
   omega
theorem bytesIt : Tryd.prog.bytesOf 69 = 80 := by kernel_rfl
theorem bytesDd : Tryd.prog.bytesOf 75 = 16 := by kernel_rfl
theorem bytesCu : Tryd.prog.bytesOf 77 = 24 := by kernel_rfl
theorem snap_sizes {ts : List TypeId} {ds : List (DataW H)} (hz : (DataW.weightsEach Tryd.prog ts ds).all (· ≤ reachBytes) = true) {j : Nat} {d : DataW H} (ht : ts[j]? = some 29) (hd : ds[j]? = some d) {s : Snp}
 (h : ∃ (top parts : List (DataW H)), d = .agg top ∧ top[0]? = some (.agg parts) ∧ (s.items = [] ∨ ∃ es sp, parts[5]? = some (.slice es sp) ∧ es.length = s.items.length) ∧ (s.dead = [] ∨ ∃ es sp, parts[6]? = some (.slice es sp) ∧ es.length = s.dead.length) ∧ (s.curs = [] ∨ ∃ es sp, parts[7]? = some (.slice es sp) ∧ es.length = s.curs.length)) :
 s.items.length * 80 ≤ 140737488355328 ∧ s.dead.length * 16 ≤ 140737488355328 ∧ s.curs.length * 24 ≤ 140737488355328 := by
 obtain ⟨top, parts, h1, h2, a, b, c⟩ := h
 refine ⟨snap_small hz ht hd h1 h2 (k := 5) (T := 23) (by rw [Tryd.underlying27]; rfl) Tryd.underlying23 bytesIt (a.imp (fun h => by rw [h]; rfl) id), snap_small hz ht hd h1 h2 (k := 6) (T := 24) (by rw [Tryd.underlying27]; rfl) Tryd.underlying24 bytesDd (b.imp (fun h => by rw [h]; rfl) id), snap_small hz ht hd h1 h2 (k := 7) (T := 25) (by rw [Tryd.underlying27]; rfl) Tryd.underlying25 bytesCu (c.imp (fun h => by rw [h]; rfl) id)⟩
theorem open_recs {v : Value} {d : DataW H} {p : List MemPlace} {r : Reach} {b0 : Nat} (hval : Value.okWide Tryd.prog w r b0 30 v) (h : DataW.Trod enc Tryd.prog w base (fun _ => true) held 30 v d p) :
 ∃ l : List Rc, Rcs w v l := by
 obtain ⟨a, len, cap, rfl⟩ := okWide_slice Tryd.underlying30 hval
 obtain ⟨fuel, hf⟩ := h
 replace hf : DataW.trod enc Tryd.prog w base (fun _ => true) held fuel 30 [.slice a len cap] = some (d, p) := hf
 rcases open_slice_fields Tryd.underlying30 Tryd.underlying62 (by kernel_rfl) (by kernel_rfl) hf with ⟨h0, _⟩ | ⟨a, len, cap, m, D, Pl, hcs, hb, hl, hm, hmm, hx, hi⟩
 · simp at h0
   obtain ⟨rfl, rfl, rfl⟩ := h0
   exact ⟨[], [], rfl, RowsOf.nil _ _ _, fun p hp => absurd hp (by simp)⟩
 · simp at hcs
   obtain ⟨rfl, rfl, rfl⟩ := hcs
   simp at hmm
   subst hmm
   have hrow : ∀ i, i < len → ∃ q : Rc × Value, Vec uv w q.2 q.1.n ∧ ∀ j u, (rcells q)[j]? = some u → w.cell? (a.add (i * 3 + j)) = some u := by
    intro i hil
    obtain ⟨ys, n, -, -, -, hfj⟩ := hi i (by omega)
    obtain ⟨u0, y0, k0, -, t0⟩ := hfj 0 _ rfl
    obtain ⟨u1, y1, k1, -, t1⟩ := hfj 1 _ rfl
    obtain ⟨u2, y2, k2, -, t2⟩ := hfj 2 _ rfl
    obtain ⟨z, e, -, hw⟩ := DataW.trod_int Tryd.underlying3 t0
    simp at e; subst e
    obtain ⟨l, hl⟩ : ∃ l : List UInt64, Vec uv w u1 l := by
     rcases open_ints Tryd.underlying56 Tryd.underlying22 (by kernel_rfl) t1 with ⟨h0, _⟩ | ⟨a, len, cap, zs, hcs, hb, hl, hm, hz, hx, hcell, hw⟩
     · simp at h0; subst h0
       exact vec_of_row_u64 (.inl ⟨rfl, rfl, rfl, rfl⟩)
     · simp at hcs; subst hcs
       exact vec_of_row_u64 (.inr ⟨a, rfl, hl, hm, by simpa using hz, hcell, hw⟩)
    obtain ⟨s, e, -, -⟩ := DataW.trod_string Tryd.underlying9 t2
    simp at e; subst e
    refine ⟨(⟨z, l, s.data.toList⟩, u1), hl, fun j u hu => ?_⟩
    match j, hu with
    | 0, hu => simp at hu; subst hu; exact k0
    | 1, hu => simp at hu; subst hu; exact k1
    | 2, hu => simp [ofNat_toNatList] at hu; subst hu; exact k2
   obtain ⟨q, hq, hQ⟩ := list_of len hrow
   refine ⟨q.map (·.1), q, rfl, RowsOf.mk' hq hl hm (by decide) (fun _ _ => rfl) (fun i h j u hu => (hQ i h).2 j u hu), ?_⟩
   intro p hp
   obtain ⟨i, hil, rfl⟩ := List.mem_iff_getElem.1 hp
   exact (hQ i hil).1
end
end Go.Proofs.YtpbmbjdiilnaeaaDoor

