/- maps.Clone, DirSync. -/
import Derived.Test.YtkaafllbmeppnaaDskY
import Derived.Shelf.SlMaps.Clone
set_option linter.unusedSimpArgs false
set_option linter.unusedVariables false
namespace Go.Proofs.Ytkaafllbmeppnaa
open Go Go.RowKit Go.Tum Go.ChangeMaps
open Go.ParB (upd Lof)
open Go.ParE (putS slotsR slots Closed)

set_option maxRecDepth 100000 in
set_option maxHeartbeats 2000000 in
theorem clone_any (w : World) (m : Nat) (l : Dir) (h : PM w m l) :
    Calls Try.prog 58 #[.map (some m)] w fun e w' => e = .returned (.map (some w.heap.size)) ∧ PM w' w.heap.size l ∧ Ext w w' := by
  obtain ⟨es, ck, hb⟩ := h.block
  have hq := fun w => run_eql_map_nil_sl (P := Try.prog) w 60 _ _ (some m) Try.underlying60
  have H := hid h
  clear h
  go_enter Try.func58, Try.ntmps58
  go_wp2
  rw [run_callFunc_extern Try.func72 (by kernel_rfl) (by kernel_rfl) (by kernel_rfl) (e := Extern.MapsClone.clone) (by kernel_rfl), run_maps_clone_sl w 60 hb]
  simp only [Result.andThen]
  rw [Oper.upon_value]
  go_wp2
  rw [run_typeAssert_map_sl _ 60 20 _ _ _ Try.underlying60]
  simp only [Result.andThen]
  rw [Oper.upon_value]
  go_wp2
  go_ret
  refine ⟨rfl, ?_, Ext.alloc _ _⟩
  obtain ⟨D, ⟨es2, c2, e1, e2, e3, e4⟩, k2, k3⟩ := H.out
  rw [hb] at e1
  cases e1
  exact ⟨D, ⟨es, ck, heap_alloc_new _ _, e2, e3, e4⟩, k2, k3⟩
def DX.synced (x : DX) (m : Nat) : DX := ⟨x.md, m, .slice none 0 0, x.bl⟩
def dsyS (s : PS) : PS := { s with sure := s.dir, opn := [] }
theorem dsyS_dir (s : PS) : (dsyS s).dir = s.dir := rfl
theorem ds1_any (w : World) : Calls Try.prog 56 #[] w fun e w' => e = .returned (.int .i64 0) ∧ Ext w w' := by
  go_enter Try.func56, Try.ntmps56
  go_wp2
  go_ret
  exact ⟨rfl, Ext.refl _⟩
set_option maxRecDepth 100000 in
set_option maxHeartbeats 1000000 in
theorem ds2_any {B : Nat} {w : World} {p : Nat} {x : DX} {s : PS} (h : Dk B w p x s) (bd : Nat) (hd : Bx w bd (pv p) 25) (hB : B ≤ w.heap.size) (hg : Gd (dsyS s)) :
    Calls Try.prog 57 #[bp bd] w fun e w' => (∃ u, e = .returned u) ∧ Stp B w p x (dsyS s) w' := by
  have H := hid h
  have HG := hid hg
  have HB := hid hB
  have HBP : Hid (bd ≠ p) := hid (fun e => by have h1 := hd; rw [e] at h1; have h2 := h.hd; unfold Bx at h1; rw [h1] at h2; simp at h2)
  have CD := hid hd.cell
  have D1 := hid (lk6 h.hd).1.2.1
  have HHD := hid h.hd
  obtain ⟨vo, vc, hvo⟩ := row_shape h.op
  have HVO := hid hvo
  clear h hd hg hB hvo
  go_enter Try.func57, Try.ntmps57
  go_wp2_with fail
  refine ParE.wp_region_e (l := [_, _, _, _, _, _, _, _, _, _, _, _, _]) rfl (Rg.R3 w 6 7 9 999 12 (fun v w' => Ext w w' ∧ ∃ m, v = .map (some m) ∧ PM w' m (x.hb s.dir) ∧ w.heap.size ≤ m) (fun _ w' => ∃ m, w'.heap[p]? = some (diskO { x with ms := m } s) ∧ PM w' m (x.hb s.dir) ∧ w.heap.size ≤ m ∧ Fr [p] w w') (fun w' => ∃ m, w'.heap[p]? = some (diskO (x.synced m) (dsyS s)) ∧ PM w' m (x.hb s.dir) ∧ w.heap.size ≤ m ∧ Fr [p] w w')) (ParC.VC [ParC.EQ (pv p), ParC.EQ (pv p), ParC.EQ (pv p), ParC.EQ (pv p), ParC.EQ (Value.pointer (some ⟨p, 1, none⟩)), ParC.EQ (Value.map (some x.md)), (fun _ => True), ParC.EQ (pv p), ParC.EQ (Value.pointer (some ⟨p, 2, none⟩)), fun _ => True, ParC.EQ (pv p), ParC.EQ (Value.pointer (some ⟨p, 3, none⟩)), fun _ => True]) (by kernel_rfl) (by kernel_rfl) (Rg.R3.start) ?_ ?_
  · refine ⟨fun L ρ w' hR hC hL hd hk => ?_, ?_⟩
    · obtain ⟨k0, -⟩ := hk
      have e0 : ρ (.tmp 0) = bp bd := k0
      clear k0
      refine Par.val_k fun K hK => ?_
      unfold Par.val
      (have hx := hR.a (hC.notyet 9 0 hL (by kernel_rfl)) (hC.notyet 12 0 hL (by kernel_rfl)); have cc := hx.cell CD.out; go_simp; exact hK _ _ ⟨hR.other (by decide), rfl⟩)
    refine ⟨fun L ρ w' hR hC hL hd hk => ?_, ?_⟩
    · obtain ⟨k0, -⟩ := hk
      have e0 : ρ (.tmp 0) = bp bd := k0
      clear k0
      refine Par.val_k fun K hK => ?_
      unfold Par.val
      (have n12 := hC.notyet 12 1 hL (by kernel_rfl); have hF : Fr [p] w w' := (by cases h9 : L 9 with | false => exact Ext.fr (hR.a h9 n12) | true => obtain ⟨m, -, -, -, g⟩ := hR.b h9 n12; exact g); have cc := (hF.cell (a := ⟨bd, 0, none⟩) (by simpa using HBP.out) (World.block_lt_of_cell? w _ CD.out)).trans CD.out; go_simp; exact hK _ _ ⟨hR.other (by decide), rfl⟩)
    refine ⟨fun L ρ w' hR hC hL hd hk => ?_, ?_⟩
    · obtain ⟨k0, -⟩ := hk
      have e0 : ρ (.tmp 0) = bp bd := k0
      clear k0
      refine Par.val_k fun K hK => ?_
      unfold Par.val
      (have hx := hR.a (hC.notyet 9 2 hL (by kernel_rfl)) (hC.notyet 12 2 hL (by kernel_rfl)); have cc := hx.cell CD.out; go_simp; exact hK _ _ ⟨hR.other (by decide), rfl⟩)
    refine ⟨fun L ρ w' hR hC hL hd hk => ?_, ?_⟩
    · obtain ⟨k0, -⟩ := hk
      have e0 : ρ (.tmp 3) = pv p := k0
      clear k0
      refine Par.val_k fun K hK => ?_
      unfold Par.val
      (go_simp; exact hK _ _ ⟨hR.other (by decide), rfl⟩)
    refine ⟨fun L ρ w' hR hC hL hd hk => ?_, ?_⟩
    · obtain ⟨k0, -⟩ := hk
      have e0 : ρ (.tmp 4) = pv p := k0
      clear k0
      refine Par.val_k fun K hK => ?_
      unfold Par.val
      (go_simp; exact hK _ _ ⟨hR.other (by decide), rfl⟩)
    refine ⟨fun L ρ w' hR hC hL hd hk => ?_, ?_⟩
    · obtain ⟨k0, -⟩ := hk
      have e0 : ρ (.tmp 5) = Value.pointer (some ⟨p, 1, none⟩) := k0
      clear k0
      refine Par.val_k fun K hK => ?_
      unfold Par.val
      (have hx := hR.a (hC.notyet 9 5 hL (by kernel_rfl)) (hC.notyet 12 5 hL (by kernel_rfl)); have cc := hx.cell D1.out; go_simp; exact hK _ _ ⟨hR.other (by decide), rfl⟩)
    refine ⟨fun L ρ w' hR hC hL hd hk => ?_, ?_⟩
    · obtain ⟨k0, k1, -⟩ := hk
      have e0 := k0
      have e1 : ρ (.tmp 6) = Value.map (some x.md) := k1
      clear k0 k1
      refine Par.val_k fun K hK => ?_
      unfold Par.val
      (have n9 := hC.notyet 9 6 hL (by kernel_rfl); have n12 := hC.notyet 12 6 hL (by kernel_rfl); have hx := hR.a n9 n12; refine Par.val_call Try.func58 (by kernel_rfl) rfl e0 ?_; simp only [List.map_toArray, List.map_cons, List.map_nil, e1]; refine (clone_any w' x.md (x.hb s.dir) (H.out.ext hx).dr).mono ?_; rintro e w2 ⟨rfl, q1, q2⟩; exact ⟨_, rfl, hK _ _ ⟨Rg.R3.zero (by decide) n9 n12 (hx.trans q2) ⟨hx.trans q2, _, rfl, q1, hx.size⟩, trivial⟩⟩)
    refine ⟨fun L ρ w' hR hC hL hd hk => ?_, ?_⟩
    · obtain ⟨k0, -⟩ := hk
      have e0 : ρ (.tmp 1) = pv p := k0
      clear k0
      refine Par.val_k fun K hK => ?_
      unfold Par.val
      (go_simp; exact hK _ _ ⟨hR.other (by decide), rfl⟩)
    refine ⟨fun L ρ w' hR hC hL hd hk => ?_, ?_⟩
    · obtain ⟨k0, -⟩ := hk
      have e0 : ρ (.tmp 8) = pv p := k0
      clear k0
      refine Par.val_k fun K hK => ?_
      unfold Par.val
      (go_simp; exact hK _ _ ⟨hR.other (by decide), rfl⟩)
    refine ⟨fun L ρ w' hR hC hL hd hk => ?_, ?_⟩
    · obtain ⟨k0, k1, -⟩ := hk
      have e0 : ρ (.tmp 9) = Value.pointer (some ⟨p, 2, none⟩) := k0
      have e1 : (fun _ => True) (ρ (.tmp 7))  := k1
      clear k0 k1
      refine Par.val_k fun K hK => ?_
      unfold Par.val
      (have n12 := hC.notyet 12 9 hL (by kernel_rfl); have h6 := hC.before 6 (i := 9) rfl hd (by kernel_rfl); obtain ⟨hx, m, hm1, hm2, hm3⟩ := hR.s h6 hL; have e4 : ρ (.tmp 7) = .map (some m) := hm1; have hb2 := hx.obj HHD.out; obtain ⟨⟨-, -, cc, -, -, -⟩, ff⟩ := lk6 hb2; have f2 := ff 2; have g1 := block_set6 hb2 2 (.map (some m)); have hpm : p ∉ [m] := (by have := (Array.getElem?_eq_some_iff.1 HHD.out).1; simp; omega); have g2 : PM (w'.setCell ⟨p, 2, none⟩ (.map (some m))) m (x.hb s.dir) := hm2.fr (S := [p]) (fr_setCell _ _ _ (by simp)) (by simp at hpm ⊢; exact fun e => hpm e.symm); clear ff; go_simp; exact hK _ _ ⟨Rg.R3.oneN (by decide) n12 ⟨m, g1, g2, hm3, (Ext.fr hx).trans (fr_setCell _ _ _ (by simp))⟩, trivial⟩)
    refine ⟨fun L ρ w' hR hC hL hd hk => ?_, ?_⟩
    · obtain ⟨k0, -⟩ := hk
      have e0 : ρ (.tmp 2) = pv p := k0
      clear k0
      refine Par.val_k fun K hK => ?_
      unfold Par.val
      (go_simp; exact hK _ _ ⟨hR.other (by decide), rfl⟩)
    refine ⟨fun L ρ w' hR hC hL hd hk => ?_, ?_⟩
    · obtain ⟨k0, -⟩ := hk
      have e0 : ρ (.tmp 10) = pv p := k0
      clear k0
      refine Par.val_k fun K hK => ?_
      unfold Par.val
      (go_simp; exact hK _ _ ⟨hR.other (by decide), rfl⟩)
    refine ⟨fun L ρ w' hR hC hL hd hk => ?_, ?_⟩
    · obtain ⟨k0, k1, -⟩ := hk
      have e0 : ρ (.tmp 11) = Value.pointer (some ⟨p, 3, none⟩) := k0
      have e1 : ρ (Operand.const (Value.slice none 0 0)) = (Value.slice none 0 0) := k1
      clear k0 k1
      refine Par.val_k fun K hK => ?_
      unfold Par.val
      (have h9 := hC.before 9 (i := 12) rfl hd (by kernel_rfl); obtain ⟨m, g1, g2, g3, g4⟩ := hR.b h9 hL; have g1' := g1; unfold diskO at g1'; simp only [HVO.out] at g1'; obtain ⟨⟨-, -, -, cc, -, -⟩, ff⟩ := lk6 g1'; have f3 := ff 3; have k1 := block_set6 g1 3 (.slice none 0 0); have hpm : p ∉ [m] := (by have := (Array.getElem?_eq_some_iff.1 HHD.out).1; simp; omega); have k2 : PM (w'.setCell ⟨p, 3, none⟩ (.slice none 0 0)) m (x.hb s.dir) := g2.fr (S := [p]) (fr_setCell _ _ _ (by simp)) (by simp at hpm ⊢; exact fun e => hpm e.symm); clear ff g1'; go_simp; exact hK _ _ ⟨Rg.R3.two (by decide) h9 ⟨m, k1, k2, g3, g4.trans (fr_setCell _ _ _ (by simp))⟩, trivial⟩)
    trivial
  intro a' w' inv hR
  have q1 : a'.tmps.getD 1 undef = pv p := inv.done 0 _ 1 rfl rfl rfl
  have q2 : a'.tmps.getD 2 undef = pv p := inv.done 1 _ 2 rfl rfl rfl
  have q3 : a'.tmps.getD 3 undef = pv p := inv.done 2 _ 3 rfl rfl rfl
  have q4 : a'.tmps.getD 4 undef = pv p := inv.done 3 _ 4 rfl rfl rfl
  have q5 : a'.tmps.getD 5 undef = Value.pointer (some ⟨p, 1, none⟩) := inv.done 4 _ 5 rfl rfl rfl
  have q6 : a'.tmps.getD 6 undef = Value.map (some x.md) := inv.done 5 _ 6 rfl rfl rfl
  have q7 : (fun _ => True) (a'.tmps.getD 7 undef)  := inv.done 6 _ 7 rfl rfl rfl
  have q8 : a'.tmps.getD 8 undef = pv p := inv.done 7 _ 8 rfl rfl rfl
  have q9 : a'.tmps.getD 9 undef = Value.pointer (some ⟨p, 2, none⟩) := inv.done 8 _ 9 rfl rfl rfl
  have q10 : a'.tmps.getD 10 undef = pv p := inv.done 10 _ 10 rfl rfl rfl
  have q11 : a'.tmps.getD 11 undef = Value.pointer (some ⟨p, 3, none⟩) := inv.done 11 _ 11 rfl rfl rfl
  clear inv
  simp only [List.filterMap_cons, List.filterMap_nil, Par.putAll, Act.put, List.setIfInBounds_toArray, List.set_cons_succ, List.set_cons_zero, q1, q2, q3, q4, q5, q6, q8, q9, q10, q11]
  clear q1 q2 q3 q4 q5 q6 q8 q9 q10 q11
  generalize a'.tmps.getD 7 undef = u7 at *
  try clear a'
  obtain ⟨m, k1, k2, k3, k4⟩ := hR.z rfl
  clear hR
  have HS : Hid (Stp B w p x (dsyS s) w') := hid (by
    have h := H.out
    refine ⟨x.synced m, ⟨k1, ?_, k2, World.ownsRow_nil _ _ _ _, h.fn, fun i hi => ?_, h.fd, h.od, ?_, ⟨h.lo.1, h.lo.2.1, Nat.le_trans HB.out k3, h.lo.2.2.2⟩, HG.out⟩, k4.mono (by intro q hq; obtain rfl : q = p := (by simpa using hq); simp [DX.blk]), k4.below (by intro q hq; obtain rfl : q = p := (by simpa using hq); exact h.lo.1) HB.out, fun q hq => ?_⟩
    · exact h.dr.fr k4 (by simpa using Ne.symm h.p_md)
    · obtain ⟨a, b⟩ := h.fi i hi
      refine ⟨(k4.block _ (Array.getElem?_eq_some_iff.1 a).1 (by simpa using Ne.symm (h.p_bk hi))).trans a, ownsRow_fr b k4 fun q hq hq2 => ?_⟩
      obtain rfl : q = p := by simpa using hq2
      exact row_no b h.hd (by intro cs e; simp at e) hq
    · obtain ⟨es, ck, hb⟩ := h.dr.block
      have := (Array.getElem?_eq_some_iff.1 hb).1
      show x.md ≠ m
      omega
    · simp only [DX.blk, DX.synced, List.mem_cons, List.mem_append] at hq ⊢
      rcases hq with h | h | h | (h | h) | h
      · exact .inl (.inl h)
      · exact .inl (.inr (.inl h))
      · exact .inr (by omega)
      · simp [oB, Value.ownBlock] at h
      · exact .inl (.inr (.inr (.inr (.inl (.inr h)))))
      · exact .inl (.inr (.inr (.inr (.inr h)))))
  clear k1 k2 k3 k4
  go_wp2
  go_returns
  exact ⟨⟨_, rfl⟩, HS.out⟩
theorem enDS1 (args : Array Value) (w : World) : Sem.run Try.prog (callFunc 56 args) w = .ok (.enter 56 args) w := enter_of Try.func56 (by kernel_rfl) (by kernel_rfl) args w
theorem enDS2 (args : Array Value) (w : World) : Sem.run Try.prog (callFunc 57 args) w = .ok (.enter 57 args) w := enter_of Try.func57 (by kernel_rfl) (by kernel_rfl) args w
set_option maxHeartbeats 1000000 in
theorem ddsync_any {B : Nat} {w : World} {p : Nat} {x : DX} {s : PS}  (h : Dk B w p x s) (hB : B ≤ w.heap.size) (hg : Gd (dsyP s).2)  :
    Calls Try.prog 26 #[pv p] w fun e w' => DoR B w p x (dsyP s) e w' := by
  have E0 : Ext w (w.alloc (.cells #[pv p] 25 (0, 0))) := Ext.alloc _ _
  have b0 := Bx.new w (pv p) 25
  have HE := hid E0
  have H := hid (h.ext E0)
  have HG := hid hg
  have HB := hid hB
  obtain ⟨W0, hW0⟩ : ∃ W0, (w.alloc (.cells #[pv p] 25 (0, 0))) = W0 := ⟨_, rfl⟩
  rw [hW0] at HE H b0
  have HB0 := hid b0
  have c0 := b0.cell
  clear h hg E0 b0
  go_enter Try.func26, Try.ntmps26
  go_wp2_with fail
  clear hW0 c0
  obtain ⟨a, ha⟩ : ∃ a, w.heap.size = a := ⟨_, rfl⟩
  rw [ha] at HB0
  rw [ha]
  have n0 : a ≠ p := fun e => by have := HB0.out; rw [e] at this; have h2 := H.out.hd; unfold Bx at this; rw [this] at h2; simp at h2
  refine (ddo_any H.out (Nat.le_trans HB.out HE.out.size) 56 57 #[] #[bp a] enDS1 enDS2 (0) (fun s => { s with sure := s.dir, opn := [] })
    (fun _ w' k => ds1_any w')
    (fun h1 h2 h3 w' hD hF hbw => ?_)).mono ?_
  · have hdone := doP_done (act := (fun s => { s with sure := s.dir, opn := [] })) h1 h2 h3
    have hgd : Gd (((fun s => { s with sure := s.dir, opn := [] })) (fusS s)) := by have := HG.out; unfold dsyP at this; rw [hdone] at this; exact this
    have hB2 := Nat.le_trans (Nat.le_trans HB.out HE.out.size) hF.size
    have x0 := HB0.out.fr hF (by simpa using n0)
    exact ds2_any hD a x0 hB2 hgd
  · rintro e w2 ⟨rfl, h2⟩
    have HS : Hid (DoR B w p x (dsyP s) _ w2) := hid (DoR.ext ⟨rfl, h2⟩ HE.out HB.out)
    clear h2
    go_wp2
    go_ret
    exact HS.out
end Go.Proofs.Ytkaafllbmeppnaa
