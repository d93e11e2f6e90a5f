/- A file's crash; the files of a disk by themselves. -/
import Derived.Test.YtkaafllbmeppnaaDskH
set_option linter.unusedSimpArgs false
set_option linter.unusedVariables false
namespace Go.Proofs.Ytkaafllbmeppnaa
open Go Go.RowKit Go.Tum Go.ChangeMaps
open Go.ParB (upd Lof)
open Go.ParE (putS slotsR slots Closed)

set_option maxRecDepth 100000 in
set_option maxHeartbeats 1000000 in
theorem fcrash_any (w : World) (bf : Nat) (fo : Option Addr) (fl fc m0 : Nat) (t : Int) (ht : -9223372036854775808 ≤ t ∧ t ≤ 9223372036854775807) (h : w.heap[bf]? = some (fileO (.slice fo fl fc) m0)) (h1 : m0 ≤ fl) (h2 : fl ≤ fc) (h3 : fl ≤ 1048576) (k : Nat) (hk : k = m0 + (min (max t 0) ((fl : Int) - m0)).toNat) :
    Calls Try.prog 60 #[bp bf, .int .i64 t] w fun e w' => (∃ u, e = .returned u) ∧ w'.heap[bf]? = some (fileO (.slice fo k fc) k) ∧ Fr [bf] w w' := by
  have HB := hid h
  obtain ⟨c0, c1, -⟩ := lk2 h
  have C0 := hid c0
  have C1 := hid c1
  obtain ⟨tm, htm⟩ : ∃ tm : Nat, min (max t 0) ((fl : Int) - m0) = (tm : Int) := ⟨(min (max t 0) ((fl : Int) - m0)).toNat, by omega⟩
  have hkm : k = m0 + tm := by rw [hk, htm]; omega
  have hkf : k ≤ fl := by omega
  have HKM := hid hkm
  have HKF := hid hkf
  have hw1 : IntKind.i64.wrap ((fl : Int) - (m0 : Int)) = (fl : Int) - (m0 : Int) := IntWalk.i64_in _ (by omega)
  have hw2 : IntKind.i64.wrap ((m0 : Int) + min (max t 0) ((fl : Int) - (m0 : Int))) = (k : Int) := by rw [htm, IntWalk.i64_in _ (by omega)]; omega
  have hkc : k ≤ fc := by omega
  have HKC := hid hkc
  clear h hk htm hkm hkf hkc h1 h2 h3 ht
  go_enter Try.func60, Try.ntmps60
  go_wp2_with fail
  go_quiet (fail)
  obtain ⟨W, hW⟩ : ∃ W, w.drewN nq = W := ⟨_, rfl⟩
  have hX : Ext w W := by rw [← hW]; exact Ext.drewN _ _
  rw [hW]
  clear hW c0 c1
  have HX := hid hX
  have hb := hX.obj HB.out
  obtain ⟨-, c1, ff⟩ := lk2 hb
  have f1 := ff 1
  have HB1 := hid hb
  have hb2 := box_set21 hb (.int .i64 (k : Int))
  have HF2 : Hid (Fr [bf] w (W.setCell ⟨bf, 1, none⟩ (.int .i64 (k : Int)))) := hid ((Ext.fr hX).trans (fr_setCell _ _ _ (by simp)))
  have HB2 := hid hb2
  clear hX hb ff hb2 hw1
  go_wp2_with fail
  obtain ⟨W2, hW2⟩ : ∃ W2, W.setCell ⟨bf, 1, none⟩ (.int .i64 (k : Int)) = W2 := ⟨_, rfl⟩
  rw [hW2] at HF2 HB2 ⊢
  clear hW2 c1 f1
  have D0 := hid (lk2 HB2.out).1
  have D1 := hid (lk2 HB2.out).2.1
  have hkc : k ≤ fc := HKC.out
  refine ParE.wp_region_e (l := [_, _, _, _, _, _, _, _, _, _, _, _, _]) rfl (Rg.R1 W2 12 (fun w' => w'.heap[bf]? = some (fileO (.slice fo k fc) k) ∧ Fr [bf] W2 w')) (ParC.VC [ParC.EQ (bp bf), ParC.EQ (bp bf), ParC.EQ (bp bf), ParC.EQ (bp bf), ParC.EQ (Value.slice fo fl fc), ParC.EQ (bp bf), ParC.EQ (bp bf), ParC.EQ (Value.pointer (some ⟨bf, 1, none⟩)), ParC.EQ (Value.int IntKind.i64 (k : Int)), ParC.EQ (Value.slice fo k fc), ParC.EQ (bp bf), ParC.EQ (bp bf), fun _ => True]) (by kernel_rfl) (by kernel_rfl) (Rg.R1.start) ?_ ?_
  · refine ⟨fun L ρ w' hR hC hL hd hk => ?_, ?_⟩
    · exact Par.val_of_run rfl ⟨hR.other (by decide), hk.1⟩
    refine ⟨fun L ρ w' hR hC hL hd hk => ?_, ?_⟩
    · exact Par.val_of_run rfl ⟨hR.other (by decide), hk.1⟩
    refine ⟨fun L ρ w' hR hC hL hd hk => ?_, ?_⟩
    · obtain ⟨k0, -⟩ := hk
      have e0 : ρ (.tmp 26) = bp bf := k0
      clear k0
      refine Par.val_k fun K hK => ?_
      unfold Par.val
      (go_simp; exact hK _ _ ⟨hR.other (by decide), rfl⟩)
    refine ⟨fun L ρ w' hR hC hL hd hk => ?_, ?_⟩
    · obtain ⟨k0, -⟩ := hk
      have e0 : ρ (.tmp 27) = bp bf := k0
      clear k0
      refine Par.val_k fun K hK => ?_
      unfold Par.val
      (go_simp; exact hK _ _ ⟨hR.other (by decide), rfl⟩)
    refine ⟨fun L ρ w' hR hC hL hd hk => ?_, ?_⟩
    · obtain ⟨k0, -⟩ := hk
      have e0 : ρ (.tmp 28) = bp bf := k0
      clear k0
      refine Par.val_k fun K hK => ?_
      unfold Par.val
      (have hx := hR.a (hC.notyet 12 4 hL (by kernel_rfl)); have cc := hx.cell D0.out; go_simp; exact hK _ _ ⟨hR.other (by decide), rfl⟩)
    refine ⟨fun L ρ w' hR hC hL hd hk => ?_, ?_⟩
    · exact Par.val_of_run rfl ⟨hR.other (by decide), hk.1⟩
    refine ⟨fun L ρ w' hR hC hL hd hk => ?_, ?_⟩
    · obtain ⟨k0, -⟩ := hk
      have e0 : ρ (.tmp 30) = bp bf := k0
      clear k0
      refine Par.val_k fun K hK => ?_
      unfold Par.val
      (go_simp; exact hK _ _ ⟨hR.other (by decide), rfl⟩)
    refine ⟨fun L ρ w' hR hC hL hd hk => ?_, ?_⟩
    · obtain ⟨k0, -⟩ := hk
      have e0 : ρ (.tmp 31) = bp bf := k0
      clear k0
      refine Par.val_k fun K hK => ?_
      unfold Par.val
      (go_simp; exact hK _ _ ⟨hR.other (by decide), rfl⟩)
    refine ⟨fun L ρ w' hR hC hL hd hk => ?_, ?_⟩
    · obtain ⟨k0, -⟩ := hk
      have e0 : ρ (.tmp 32) = Value.pointer (some ⟨bf, 1, none⟩) := k0
      clear k0
      refine Par.val_k fun K hK => ?_
      unfold Par.val
      (have hx := hR.a (hC.notyet 12 8 hL (by kernel_rfl)); have cc := hx.cell D1.out; go_simp; exact hK _ _ ⟨hR.other (by decide), rfl⟩)
    refine ⟨fun L ρ w' hR hC hL hd hk => ?_, ?_⟩
    · obtain ⟨k0, k1, -⟩ := hk
      have e0 : ρ (.tmp 29) = Value.slice fo fl fc := k0
      have e1 : ρ (.tmp 33) = Value.int IntKind.i64 (k : Int) := k1
      clear k0 k1
      refine Par.val_k fun K hK => ?_
      unfold Par.val
      (go_simp; exact hK _ _ ⟨hR.other (by decide), rfl⟩)
    refine ⟨fun L ρ w' hR hC hL hd hk => ?_, ?_⟩
    · obtain ⟨k0, -⟩ := hk
      have e0 : ρ (.tmp 25) = bp bf := k0
      clear k0
      refine Par.val_k fun K hK => ?_
      unfold Par.val
      (go_simp; exact hK _ _ ⟨hR.other (by decide), rfl⟩)
    refine ⟨fun L ρ w' hR hC hL hd hk => ?_, ?_⟩
    · obtain ⟨k0, -⟩ := hk
      have e0 : ρ (.tmp 35) = bp bf := k0
      clear k0
      refine Par.val_k fun K hK => ?_
      unfold Par.val
      (go_simp; exact hK _ _ ⟨hR.other (by decide), rfl⟩)
    refine ⟨fun L ρ w' hR hC hL hd hk => ?_, ?_⟩
    · obtain ⟨k0, k1, -⟩ := hk
      have e0 : ρ (.tmp 36) = bp bf := k0
      have e1 : ρ (.tmp 34) = Value.slice fo k fc := k1
      clear k0 k1
      refine Par.val_k fun K hK => ?_
      unfold Par.val
      (have hx := hR.a hL; have hb2 := hx.obj HB2.out; obtain ⟨cc, -, ff⟩ := lk2 hb2; have f0 := ff 0; have g1 := box_set2 hb2 (.slice fo k fc); clear ff; go_simp; exact hK _ _ ⟨Rg.R1.last ⟨g1, (Ext.fr hx).trans (fr_setCell _ _ _ (by simp))⟩, trivial⟩)
    trivial
  intro a' w' inv hR
  have q25 : a'.tmps.getD 25 undef = bp bf := inv.done 0 _ 25 rfl rfl rfl
  have q26 : a'.tmps.getD 26 undef = bp bf := inv.done 1 _ 26 rfl rfl rfl
  have q27 : a'.tmps.getD 27 undef = bp bf := inv.done 2 _ 27 rfl rfl rfl
  have q28 : a'.tmps.getD 28 undef = bp bf := inv.done 3 _ 28 rfl rfl rfl
  have q29 : a'.tmps.getD 29 undef = Value.slice fo fl fc := inv.done 4 _ 29 rfl rfl rfl
  have q30 : a'.tmps.getD 30 undef = bp bf := inv.done 5 _ 30 rfl rfl rfl
  have q31 : a'.tmps.getD 31 undef = bp bf := inv.done 6 _ 31 rfl rfl rfl
  have q32 : a'.tmps.getD 32 undef = Value.pointer (some ⟨bf, 1, none⟩) := inv.done 7 _ 32 rfl rfl rfl
  have q33 : a'.tmps.getD 33 undef = Value.int IntKind.i64 (k : Int) := inv.done 8 _ 33 rfl rfl rfl
  have q34 : a'.tmps.getD 34 undef = Value.slice fo k fc := inv.done 9 _ 34 rfl rfl rfl
  have q35 : a'.tmps.getD 35 undef = bp bf := inv.done 10 _ 35 rfl rfl rfl
  have q36 : a'.tmps.getD 36 undef = bp bf := inv.done 11 _ 36 rfl rfl rfl
  clear inv
  simp only [List.filterMap_cons, List.filterMap_nil, Par.putAll, Act.put, List.setIfInBounds_toArray, List.set_cons_succ, List.set_cons_zero, q25, q26, q27, q28, q29, q30, q31, q32, q33, q34, q35, q36]
  clear q25 q26 q27 q28 q29 q30 q31 q32 q33 q34 q35 q36
  try clear a'
  obtain ⟨g1, g2⟩ := hR.z rfl
  have G := hid (And.intro g1 (HF2.out.trans g2))
  clear hR g1 g2
  go_wp2
  go_returns
  exact ⟨⟨_, rfl⟩, G.out.1, G.out.2⟩
/-- The files of a disk. -/
structure Fls (B : Nat) (w : World) (x : DX) (fs : List (List UInt8 × Nat)) : Prop where
  fn : x.bl.length = fs.length
  fi : ∀ i (h : i < fs.length), w.heap[x.bk i]? = some (fileO (x.sv i) fs[i].2) ∧ Own w B 5 (x.sv i) fs[i].1
  fd : (x.bl.map Prod.fst).Nodup
  od : ∀ i j, i < fs.length → j < fs.length → i ≠ j → ∀ g, (x.sv i).ownBlock = some g → (x.sv j).ownBlock ≠ some g
  lo : ∀ i, i < fs.length → B ≤ x.bk i
  sz : ∀ y ∈ fs, y.2 ≤ y.1.length ∧ y.1.length ≤ 1048576
theorem Dk.fls {B : Nat} {w : World} {p : Nat} {x : DX} {s : PS} (h : Dk B w p x s) : Fls B w x s.files := ⟨h.fn, h.fi, h.fd, h.od, h.lo.2.2.2, h.gd.fl⟩
section
variable {B : Nat} {w w' : World} {x : DX} {fs : List (List UInt8 × Nat)}
theorem Fls.fr (h : Fls B w x fs) {S : List Nat} (f : Fr S w w') (hs : ∀ q ∈ S, ∃ o, w.heap[q]? = some o ∧ (∀ cs, o ≠ .cells cs 71 (0, 0)) ∧ ∀ cs, o ≠ .cells cs 5 (0, 0)) : Fls B w' x fs := by
  refine ⟨h.fn, fun i hi => ?_, h.fd, h.od, h.lo, h.sz⟩
  obtain ⟨a, b⟩ := h.fi i hi
  refine ⟨(f.block _ (Array.getElem?_eq_some_iff.1 a).1 fun hm => ?_).trans a, ownsRow_fr2 b f fun q hq => ?_⟩
  · obtain ⟨o, ho, hn, -⟩ := hs _ hm
    rw [a] at ho; cases ho; exact hn _ rfl
  · obtain ⟨o, ho, -, hn⟩ := hs q hq
    exact ⟨o, ho, hn⟩
theorem Fls.bk_ne (h : Fls B w x fs) {i j : Nat} (hi : i < fs.length) (hj : j < fs.length) (hij : i ≠ j) : x.bk i ≠ x.bk j := by
  intro e
  have h1 : i < x.bl.length := by rw [h.fn]; exact hi
  have h2 : j < x.bl.length := by rw [h.fn]; exact hj
  have e1 : x.bk i = (x.bl.map Prod.fst)[i]'(by simpa using h1) := by simp [DX.bk, List.getD_eq_getElem?_getD, h1]
  have e2 : x.bk j = (x.bl.map Prod.fst)[j]'(by simpa using h2) := by simp [DX.bk, List.getD_eq_getElem?_getD, h2]
  rw [e1, e2] at e
  exact hij ((List.getElem_inj h.fd).1 e)
theorem Fls.file (h : Fls B w x fs) {f : Nat} (hf : f < fs.length) : ∃ ao cap, w.heap[x.bk f]? = some (fileO (.slice ao (flen fs f) cap) (fs.getD f ([], 0)).2) ∧ x.sv f = .slice ao (flen fs f) cap ∧ Own w B 5 (.slice ao (flen fs f) cap) (fs.getD f ([], 0)).1 := by
  obtain ⟨a, b⟩ := h.fi f hf
  obtain ⟨ao, cap, e⟩ := row_shape b
  have e2 : fs.getD f ([], 0) = fs[f] := by rw [List.getD_eq_getElem?_getD, List.getElem?_eq_getElem hf]; rfl
  have e3 : flen fs f = fs[f].1.length := by unfold flen; rw [e2]
  refine ⟨ao, cap, ?_, ?_, ?_⟩
  · rw [e3, ← e, e2]; exact a
  · rw [e3]; exact e
  · rw [e3, ← e, e2]; exact b
/-- A file is cut to what is sure. -/
theorem Fls.cut (h : Fls B w x fs) {f : Nat} (hf : f < fs.length) (t : Int) {fo : Option Addr} {fc k : Nat} (hsv : x.sv f = .slice fo (flen fs f) fc) (hk : k = (fs.getD f ([], 0)).2 + (min (max t 0) ((flen fs f : Int) - ((fs.getD f ([], 0)).2 : Int))).toNat)
    (hb : w'.heap[x.bk f]? = some (fileO (.slice fo k fc) k)) (F : Fr [x.bk f] w w') : Fls B w' (x.setV f (.slice fo k fc)) (fs.modify f (crF t)) ∧ oB (.slice fo k fc) = oB (x.sv f) := by
  have hfx : f < x.bl.length := by rw [h.fn]; exact hf
  obtain ⟨a0, b0⟩ := h.fi f hf
  have e2 : fs.getD f ([], 0) = fs[f] := by rw [List.getD_eq_getElem?_getD, List.getElem?_eq_getElem hf]; rfl
  have e3 : flen fs f = fs[f].1.length := by unfold flen; rw [e2]
  have hsz := h.sz fs[f] (List.getElem_mem hf)
  rw [e2] at hk
  have hkl : k ≤ flen fs f := by rw [hk, e3]; omega
  have hoB : oB (.slice fo k fc) = oB (x.sv f) := by rw [hsv]; cases fo <;> rfl
  have hcr : crF t fs[f] = (fs[f].1.take k, k) := by unfold crF; rw [hk, e3]
  have hown : Own w' B 5 (.slice fo k fc) (fs[f].1.take k) := by
    have h1 : Own w' B 5 (x.sv f) fs[f].1 := ownsRow_fr b0 F fun q hq hq2 => by
      obtain rfl : q = x.bk f := by simpa using hq2
      exact row_no b0 a0 (by intro cs e; simp at e) hq
    rw [hsv] at h1
    refine own_take h1 k hkl fun e => ?_
    obtain ⟨ao, cap, e5, h6, -, h5, -⟩ := h1.byt.open
    simp only [Value.slice.injEq] at e5
    obtain ⟨rfl, -, rfl⟩ := e5
    have hc0 : fc = 0 := by
      rcases Nat.eq_zero_or_pos fc with h | h
      · exact h
      · obtain ⟨a, ha⟩ := h5 h; rw [e] at ha; cases ha
    exact ⟨by omega, hc0⟩
  refine ⟨⟨?_, fun i hi => ?_, ?_, fun i j hi hj hij g hg => ?_, fun i hi => by rw [setV_bk]; exact h.lo i (by simpa using hi), fun y hy => ?_⟩, hoB⟩
  · simp [DX.setV, h.fn]
  · have hi2 : i < fs.length := by simpa using hi
    rw [setV_bk, setV_sv hfx, modify_at hi hi2, e2]
    by_cases e : i = f
    · subst e
      rw [if_pos rfl, if_pos rfl, hcr]
      exact ⟨hb, hown⟩
    · rw [if_neg e, if_neg e]
      obtain ⟨a, b⟩ := h.fi i hi2
      refine ⟨(F.block _ (Array.getElem?_eq_some_iff.1 a).1 (by simpa using h.bk_ne hi2 hf e)).trans a, ownsRow_fr b F fun q hq hq2 => ?_⟩
      obtain rfl : q = x.bk f := by simpa using hq2
      exact row_no b a0 (by intro cs e; simp at e) hq
  · rw [setV_fst hfx]; exact h.fd
  · have hi2 : i < fs.length := by simpa using hi
    have hj2 : j < fs.length := by simpa using hj
    rw [setV_sv hfx] at hg ⊢
    have hE : (Value.slice fo k fc).ownBlock = (x.sv f).ownBlock := by rw [hsv]; cases fo <;> rfl
    have e1 : ∀ q, (if q = f then Value.slice fo k fc else x.sv q).ownBlock = (x.sv q).ownBlock := fun q => by
      split
      · rename_i e; rw [e]; exact hE
      · rfl
    rw [e1] at hg ⊢
    exact h.od i j hi2 hj2 hij g hg
  · obtain ⟨i, hi, e⟩ := List.mem_iff_getElem.1 hy
    have hi2 : i < fs.length := by simpa using hi
    rw [modify_at hi hi2, e2] at e
    split at e
    · rw [← e, hcr]
      simp only [List.length_take]
      omega
    · rw [← e]; exact h.sz _ (List.getElem_mem hi2)
end
end Go.Proofs.Ytkaafllbmeppnaa
