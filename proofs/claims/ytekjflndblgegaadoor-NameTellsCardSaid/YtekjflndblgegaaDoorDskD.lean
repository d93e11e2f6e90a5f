/- do. -/
import Derived.Test.YtekjflndblgegaaDoorDskC
set_option linter.unusedSimpArgs false
set_option linter.unusedVariables false
namespace Go.Proofs.YtekjflndblgegaaDoor
open Go Go.RowKit Go.Tum Go.ChangeMaps
open Go.ParB (upd Lof)
open Go.ParE (putS slotsR slots Closed)

theorem enter_of {P : Program} {K : Nat} {fn : Func} (hK : P.funcs[K]? = some fn) (hK1 : (fn.name == "runtime.NumGoroutine") = false) (hK2 : fn.body.isNone = false) (args : Array Value) (w : World) :
    Sem.run P (callFunc K args) w = .ok (.enter K args) w := by
  have h1 : ¬ fn.name = "runtime.NumGoroutine" := by simpa using hK1
  have h2 : ¬ fn.body = none := fun h => by rw [h] at hK2; simp at hK2
  simp [callFunc, hK, h1, h2]
abbrev FV (k : Nat) (c : Array Value) : Value := .func (.func k) #[] c
section
variable {B : Nat} {w w' : World} {p : Nat} {x : DX} {s : PS}
/-- Fuse and power may turn. -/
theorem Dk.cellSet (h : Dk B w p x s) (i : Nat) (v : Value) (s' : PS) (hs : s'.room = s.room ∧ s'.files = s.files ∧ s'.sure = s.sure ∧ s'.opn = s.opn) (hfu : -1 ≤ s'.fuse ∧ s'.fuse ≤ 9223372036854775807) (hd : (w.setCell ⟨p, i, none⟩ v).heap[p]? = some (diskO x s')) : Dk B (w.setCell ⟨p, i, none⟩ v) p x s' := by
  obtain ⟨r, f, su, o, fu, dn⟩ := s
  obtain ⟨r', f', su', o', fu', dn'⟩ := s'
  obtain ⟨rfl, rfl, rfl, rfl⟩ := hs
  have F : Fr [p] w (w.setCell ⟨p, i, none⟩ v) := fr_setCell _ _ _ (by simp)
  refine ⟨hd, h.dr.fr F (by simpa using Ne.symm h.p_md), h.sr.fr F (by simpa using Ne.symm h.p_ms), ownsRow_fr h.op F (fun q hq hq2 => ?_), h.fn, fun i hi => ?_, h.fd, h.od, h.ne, h.lo, ⟨h.gd.rm, h.gd.ds, h.gd.nm, h.gd.op, h.gd.fl, h.gd.hd, h.gd.dk, hfu⟩⟩
  · obtain rfl : q = p := by simpa using hq2
    exact row_no h.op h.hd (by intro cs e; simp at e) hq
  · obtain ⟨a, b⟩ := h.fi i hi
    refine ⟨(F.block _ (Array.getElem?_eq_some_iff.1 a).1 (by simpa using Ne.symm (h.p_bk hi))).trans a, ownsRow_fr b F fun q hq hq2 => ?_⟩
    obtain rfl : q = p := by simpa using hq2
    exact row_no b h.hd (by intro cs e; simp at e) hq
def fusS (s : PS) : PS := { s with fuse := if 0 < s.fuse then s.fuse - 1 else s.fuse }
theorem Stp.fr {S : List Nat} (h : Stp B w p x s w') : True := trivial
theorem Stp.after {w1 w2 : World} {s2 : PS} (h : Dk B w p x s) (f : Fr [p] w w1) (b : Below B w w1) (h2 : Stp B w1 p x s2 w2) : Stp B w p x s2 w2 := by
  obtain ⟨x', d, f2, b2, q⟩ := h2
  refine ⟨x', d, (f.mono (by intro q hq; obtain rfl : q = p := (by simpa using hq); simp [DX.blk])).trans f2, b.trans b2, fun y hy => ?_⟩
  rcases q y hy with h1 | h1
  · exact .inl h1
  · exact .inr (Nat.le_trans f.size h1)
end
def DoR (B : Nat) (w : World) (p : Nat) (x : DX) (r : Nat × PS) (e : Ending) (w' : World) : Prop := e = .returned (.int .i64 (r.1 : Nat)) ∧ Stp B w p x r.2 w'
set_option maxHeartbeats 1000000 in
theorem ddo_any {B : Nat} {w : World} {p : Nat} {x : DX} {s : PS} (h : Dk B w p x s) (hB : B ≤ w.heap.size) (k1 k2 : Nat) (c1 c2 : Array Value)
    (e1 : ∀ args w, Sem.run Tryd.prog (callFunc k1 args) w = .ok (.enter k1 args) w) (e2 : ∀ args w, Sem.run Tryd.prog (callFunc k2 args) w = .ok (.enter k2 args) w) (er : Nat) (act : PS → PS)
    (ha : s.down = false → ∀ w', Ext w w' → Calls Tryd.prog k1 c1 w' fun e w'' => e = .returned (.int .i64 (er : Int)) ∧ Ext w' w'')
    (hb : s.down = false → er = 0 → s.fuse ≠ 0 → ∀ w', Dk B w' p x (fusS s) → Fr [p] w w' → Below B w w' → Calls Tryd.prog k2 c2 w' fun e w'' => (∃ u, e = .returned u) ∧ Stp B w' p x (act (fusS s)) w'') :
    Calls Tryd.prog 21 #[pv p, FV k1 c1, FV k2 c2] w fun e w' => DoR B w p x (doP s er act) e w' := by
  have H := hid h
  obtain ⟨⟨-, -, -, -, d4, d5⟩, -⟩ := lk6 h.hd
  cases hdn : s.down with
  | true =>
    rw [hdn] at d5
    have HR : Hid (doP s er act = (7, s)) := hid (by unfold doP; rw [hdn]; rfl)
    have HS := hid (Stp.same h (Ext.refl w) hB)
    clear h hdn ha hb
    go_enter Tryd.func21, Tryd.ntmps21
    go_wp2
    go_ret
    rw [HR.out]
    exact ⟨rfl, HS.out⟩
  | false =>
    rw [hdn] at d5
    have HA := hid (ha hdn)
    have HBB := hid (hb hdn)
    have HDN := hid hdn
    clear h hdn ha hb
    go_enter Tryd.func21, Tryd.ntmps21
    go_wp2_with fail
    refine (HA.out w (Ext.refl w)).mono ?_
    rintro e w1 ⟨rfl, E1⟩
    have H1 := hid (H.out.ext E1)
    have HE1 := hid E1
    have HB1 := hid (Nat.le_trans hB E1.size)
    have HB0 := hid hB
    clear E1 d4 d5
    obtain ⟨⟨-, -, -, -, d4, d5⟩, ff⟩ := lk6 H1.out.hd
    have f4 := ff 4
    have f5 := ff 5
    clear ff hB
    by_cases her : er = 0
    · subst her
      by_cases hf0 : s.fuse = 0
      · have g1 : (s.fuse == 0) = true := by simpa using hf0
        have HS : Hid (Stp B w p x { s with down := true } (w1.setCell ⟨p, 5, none⟩ (.bool true))) := hid ⟨x, H1.out.cellSet 5 (.bool true) { s with down := true } ⟨rfl, rfl, rfl, rfl⟩ H1.out.gd.fu (block_set6 H1.out.hd 5 (.bool true)), ((Ext.fr HE1.out).trans (fr_setCell _ _ _ (by simp [DX.blk]))), (HE1.out.mono HB0.out).setCell (by exact H1.out.lo.1) _, fun q hq => .inl hq⟩
        have HR : Hid (doP s 0 act = (7, { s with down := true })) := hid (by unfold doP; rw [HDN.out, if_pos hf0]; rfl)
        clear hf0
        go_wp2
        go_ret
        rw [HR.out]
        exact ⟨rfl, HS.out⟩
      · have g1 : (s.fuse == 0) = false := by simpa using hf0
        have HF0 := hid hf0
        have HR : Hid (doP s 0 act = (0, act (fusS s))) := hid (by unfold doP fusS; rw [HDN.out, if_neg hf0]; rfl)
        by_cases hfp : 0 < s.fuse
        · have g2 : decide (0 < s.fuse) = true := by simpa using hfp
          have HD2 : Hid (Dk B (w1.setCell ⟨p, 4, none⟩ (.int .i64 (s.fuse - 1))) p x (fusS s)) := hid (H1.out.cellSet 4 (.int .i64 (s.fuse - 1)) (fusS s) ⟨rfl, rfl, rfl, rfl⟩ (by have := H1.out.gd.fu; unfold fusS; simp only [if_pos hfp]; omega) (by
            have := block_set6 H1.out.hd 4 (.int .i64 (s.fuse - 1))
            unfold diskO fusS
            simp only [if_pos hfp]
            exact this))
          have HF2 : Hid (Fr [p] w (w1.setCell ⟨p, 4, none⟩ (.int .i64 (s.fuse - 1)))) := hid ((Ext.fr HE1.out).trans (fr_setCell _ _ _ (by simp)))
          have HW : Hid (Below B w (w1.setCell ⟨p, 4, none⟩ (.int .i64 (s.fuse - 1)))) := hid ((HE1.out.mono HB0.out).setCell (by exact H1.out.lo.1) _)
          have hwr : IntKind.i64.wrap (s.fuse - 1) = s.fuse - 1 := IntWalk.i64_in _ (by have := H1.out.gd.fu; omega)
          clear hf0 hfp
          go_wp2_with fail
          refine (HBB.out trivial HF0.out _ HD2.out HF2.out HW.out).mono ?_
          rintro e w2 ⟨⟨u, rfl⟩, h2⟩
          have HS := hid (Stp.after H.out HF2.out HW.out h2)
          clear h2
          go_wp2
          go_ret
          rw [HR.out]
          exact ⟨rfl, HS.out⟩
        · have g2 : decide (0 < s.fuse) = false := by simpa using hfp
          have HD2 : Hid (Dk B w1 p x (fusS s)) := hid (by
            have : fusS s = s := by unfold fusS; rw [if_neg hfp]
            rw [this]; exact H1.out)
          have HF2 : Hid (Fr [p] w w1) := hid (Ext.fr HE1.out)
          have HW : Hid (Below B w w1) := hid (HE1.out.mono HB0.out)
          clear hf0 hfp
          go_wp2_with fail
          refine (HBB.out trivial HF0.out _ HD2.out HF2.out HW.out).mono ?_
          rintro e w2 ⟨⟨u, rfl⟩, h2⟩
          have HS := hid (Stp.after H.out HF2.out HW.out h2)
          clear h2
          go_wp2
          go_ret
          rw [HR.out]
          exact ⟨rfl, HS.out⟩
    · have g0 : ((er : Int) != 0) = true := by simp; omega
      have HS := hid (Stp.same H.out HE1.out HB0.out)
      have HR : Hid (doP s er act = (er, s)) := hid (by unfold doP; rw [HDN.out, if_pos her]; rfl)
      clear her
      go_wp2
      go_ret
      rw [HR.out]
      exact ⟨rfl, HS.out⟩
end Go.Proofs.YtekjflndblgegaaDoor
