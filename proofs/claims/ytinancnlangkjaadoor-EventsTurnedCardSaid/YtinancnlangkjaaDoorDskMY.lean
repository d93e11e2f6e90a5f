/- A file's crash; the files of a disk by themselves.
Fuse, Read.
No Names here. -/
import Derived.Test.YtinancnlangkjaaDoorDskMX
import Derived.Lib.SliceRun
import Derived.Sort.OwnSorted
set_option linter.unusedSimpArgs false
set_option linter.unusedVariables false
namespace Go.Proofs.YtinancnlangkjaaDoor
open Go Go.RowKit Go.Tum Go.ChangeMaps
open Go.ParB (upd Lof)
open Go.ParE (putS slotsR slots Closed)

set_option maxRecDepth 100000 in
/-- slices.Clone. -/
theorem bclone_any (w : World) (u : Value) (l : List UInt8) (hu : Byt w u l) (hl : l.length ≤ 140737488355328) :
    Calls Tryd.prog 37 #[u] w fun e w' => (∃ v, e = .returned v ∧ Own w' w.heap.size 5 v l) ∧ Ext w w' := by
  have q32 : ∀ (w : World) (a : Option Addr) (n c : Nat), (binOp .eql 49 (.slice a n c) (.slice none 0 0)).run Tryd.prog w = .ok (.bool a.isNone) w := fun w a n c => Lib.run_eql_slice_nil w _ _ a n c 0 0 Tryd.underlying49
  have HU := hid hu
  obtain ⟨uo, uc, rfl, hle, hmx, hnn, -⟩ := hu.open
  clear hu
  cases uo with
  | none =>
    have h0 : l = [] := by
      rcases Nat.eq_zero_or_pos uc with h | h
      · exact List.length_eq_zero_iff.1 (by omega)
      · obtain ⟨a, ha⟩ := hnn h; cases ha
    subst h0
    clear hnn
    go_enter Tryd.func37, Tryd.ntmps37
    go_wp2
    go_ret
    exact ⟨⟨_, rfl, Own.nil _ _ _⟩, Ext.refl _⟩
  | some a =>
    clear hnn
    go_enter Tryd.func37, Tryd.ntmps37
    go_wp2_with (at_builtin; refine wpList_append_byt rfl (.tmp 5) (.tmp 6) 49 rfl w.heap.size 5 Tryd.underlying49 infoU8 rfl (own_lit w w.heap.size 5 [] #[] rfl 0 rfl (Nat.le_refl _) (by simp [maxLen])) rfl (HU.out.ext (Ext.alloc _ _)) l.length (by simp) hl (by simp) ?_; intro ao2 cap2 w2 hO2 hg2 hb2; have HO2 := hid hO2; have HE2 : Hid (Ext w w2) := hid (Below.trans (Ext.alloc _ _) hb2); clear hO2 hg2 hb2)
    go_ret
    have := HO2.out
    rw [List.nil_append] at this
    exact ⟨⟨_, rfl, this⟩, HE2.out⟩
def rdE (s : PS) (n : Nm) : Nat := if s.down then 7 else if look s.dir n = none then 5 else 0
def rdB (s : PS) (n : Nm) : List UInt8 := if s.down then [] else match look s.dir n with
  | none => []
  | some f => (s.files.getD f ([], 0)).1
def ReadP (B : Nat) (w : World) (s : PS) (n : Nm) (e : Ending) (w' : World) : Prop := (∃ v, e = .returned (.tuple #[v, .int .i64 (rdE s n : Nat)]) ∧ Own w' w.heap.size 5 v (rdB s n)) ∧ Ext w w'
set_option maxHeartbeats 1000000 in
theorem dread_any {B : Nat} {w : World} {p : Nat} {x : DX} {s : PS} (n : Nm) (hk : n.length ≤ maxLen) (h : Dk B w p x s) :
    Calls Tryd.prog 17 #[pv p, vN n] w fun e w' => ReadP B w s n e w' := by
  obtain ⟨⟨-, c1, -, -, -, c5⟩, -⟩ := lk6 h.hd
  have hlk := h.dr.look n hk
  rw [hb_look] at hlk
  have H := hid h
  clear h
  cases hd : s.down with
  | true =>
    rw [hd] at c5
    have HE : Hid (rdE s n = 7 ∧ rdB s n = []) := hid ⟨by unfold rdE; rw [hd]; rfl, by unfold rdB; rw [hd]; rfl⟩
    clear hlk hd
    go_enter Tryd.func17, Tryd.ntmps17
    go_wp2
    go_returns
    unfold ReadP
    rw [HE.out.1, HE.out.2]
    exact ⟨⟨_, rfl, Own.nil _ _ _⟩, Ext.refl _⟩
  | false =>
    rw [hd] at c5
    cases hf : look s.dir n with
    | none =>
      have HE : Hid (rdE s n = 5 ∧ rdB s n = []) := hid ⟨by unfold rdE; rw [hd, hf]; rfl, by unfold rdB; rw [hd, hf]; rfl⟩
      rw [hf] at hlk
      simp only [Option.map_none, ptr] at hlk
      clear hf hd
      go_enter Tryd.func17, Tryd.ntmps17
      go_wp2
      go_returns
      unfold ReadP
      rw [HE.out.1, HE.out.2]
      exact ⟨⟨_, rfl, Own.nil _ _ _⟩, Ext.refl _⟩
    | some f =>
      have HE : Hid (rdE s n = 0 ∧ rdB s n = (s.files.getD f ([], 0)).1) := hid ⟨by unfold rdE; rw [hd, hf]; rfl, by unfold rdB; rw [hd, hf]; rfl⟩
      rw [hf] at hlk
      simp only [Option.map_some, ptr] at hlk
      have hfl := (H.out.gd.dnm (look_mem hf)).2
      obtain ⟨fo, fc, hblk, hsv, hown⟩ := H.out.file hfl
      obtain ⟨q0, -, -⟩ := lk2 hblk
      have HOWN := hid hown
      have HLB := hid (H.out.gd.fl _ (getD_mem (d := ([], 0)) hfl)).2
      clear hf hd hblk hsv hown hfl
      generalize x.bk f = bf at *
      generalize flen s.files f = fl at *
      go_enter Tryd.func17, Tryd.ntmps17
      go_wp2_with fail
      refine (bclone_any w _ _ HOWN.out.byt (by have := HLB.out; omega)).mono ?_
      rintro e w2 ⟨⟨v, rfl, ho⟩, hE⟩
      have HO := hid ho
      have HEE := hid hE
      clear ho hE
      go_wp2
      go_returns
      unfold ReadP
      rw [HE.out.1, HE.out.2]
      exact ⟨⟨_, rfl, HO.out⟩, HEE.out⟩
end Go.Proofs.YtinancnlangkjaaDoor

namespace Go.Proofs.YtinancnlangkjaaDoor
end Go.Proofs.YtinancnlangkjaaDoor

set_option linter.unusedSimpArgs false
set_option linter.unusedVariables false
namespace Go.Proofs.YtinancnlangkjaaDoor
open Go Go.RowKit Go.Tum Go.ChangeMaps
open Go.ParB (upd Lof)
open Go.ParE (putS slotsR slots Closed)

/-- The files of a disk. -/
structure Fls (B : Nat) (w : World) (x : DX) (fs : List (List UInt8 × Nat)) : Prop where
  fn : x.bl.length = fs.length
  fi : ∀ i (h : i < fs.length), w.heap[x.bk i]? = some (fileO (x.sv i) fs[i].2) ∧ Own w B 5 (x.sv i) fs[i].1
  fd : (x.bl.map Prod.fst).Nodup
  od : ∀ i j, i < fs.length → j < fs.length → i ≠ j → ∀ g, (x.sv i).ownBlock = some g → (x.sv j).ownBlock ≠ some g
  lo : ∀ i, i < fs.length → B ≤ x.bk i
  sz : ∀ y ∈ fs, y.2 ≤ y.1.length ∧ y.1.length ≤ 1048576
theorem Dk.fls {B : Nat} {w : World} {p : Nat} {x : DX} {s : PS} (h : Dk B w p x s) : Fls B w x s.files := ⟨h.fn, h.fi, h.fd, h.od, h.lo.2.2.2, h.gd.fl⟩
section
variable {B : Nat} {w w' : World} {x : DX} {fs : List (List UInt8 × Nat)}
theorem Fls.fr (h : Fls B w x fs) {S : List Nat} (f : Fr S w w') (hs : ∀ q ∈ S, ∃ o, w.heap[q]? = some o ∧ (∀ cs, o ≠ .cells cs 93 (0, 0)) ∧ ∀ cs, o ≠ .cells cs 5 (0, 0)) : Fls B w' x fs := by
  refine ⟨h.fn, fun i hi => ?_, h.fd, h.od, h.lo, h.sz⟩
  obtain ⟨a, b⟩ := h.fi i hi
  refine ⟨(f.block _ (Array.getElem?_eq_some_iff.1 a).1 fun hm => ?_).trans a, ownsRow_fr2 b f fun q hq => ?_⟩
  · obtain ⟨o, ho, hn, -⟩ := hs _ hm
    rw [a] at ho; cases ho; exact hn _ rfl
  · obtain ⟨o, ho, -, hn⟩ := hs q hq
    exact ⟨o, ho, hn⟩
theorem Fls.bk_ne (h : Fls B w x fs) {i j : Nat} (hi : i < fs.length) (hj : j < fs.length) (hij : i ≠ j) : x.bk i ≠ x.bk j := by
  intro e
  have h1 : i < x.bl.length := by rw [h.fn]; exact hi
  have h2 : j < x.bl.length := by rw [h.fn]; exact hj
  have e1 : x.bk i = (x.bl.map Prod.fst)[i]'(by simpa using h1) := by simp [DX.bk, List.getD_eq_getElem?_getD, h1]
  have e2 : x.bk j = (x.bl.map Prod.fst)[j]'(by simpa using h2) := by simp [DX.bk, List.getD_eq_getElem?_getD, h2]
  rw [e1, e2] at e
  exact hij ((List.getElem_inj h.fd).1 e)
theorem Fls.file (h : Fls B w x fs) {f : Nat} (hf : f < fs.length) : ∃ ao cap, w.heap[x.bk f]? = some (fileO (.slice ao (flen fs f) cap) (fs.getD f ([], 0)).2) ∧ x.sv f = .slice ao (flen fs f) cap ∧ Own w B 5 (.slice ao (flen fs f) cap) (fs.getD f ([], 0)).1 := by
  obtain ⟨a, b⟩ := h.fi f hf
  obtain ⟨ao, cap, e⟩ := row_shape b
  have e2 : fs.getD f ([], 0) = fs[f] := by rw [List.getD_eq_getElem?_getD, List.getElem?_eq_getElem hf]; rfl
  have e3 : flen fs f = fs[f].1.length := by unfold flen; rw [e2]
  refine ⟨ao, cap, ?_, ?_, ?_⟩
  · rw [e3, ← e, e2]; exact a
  · rw [e3]; exact e
  · rw [e3, ← e, e2]; exact b
/-- A file is cut to what is sure. -/
theorem Fls.cut (h : Fls B w x fs) {f : Nat} (hf : f < fs.length) (t : Int) {fo : Option Addr} {fc k : Nat} (hsv : x.sv f = .slice fo (flen fs f) fc) (hk : k = (fs.getD f ([], 0)).2 + (min (max t 0) ((flen fs f : Int) - ((fs.getD f ([], 0)).2 : Int))).toNat)
    (hb : w'.heap[x.bk f]? = some (fileO (.slice fo k fc) k)) (F : Fr [x.bk f] w w') : Fls B w' (x.setV f (.slice fo k fc)) (fs.modify f (crF t)) ∧ oB (.slice fo k fc) = oB (x.sv f) := by
  have hfx : f < x.bl.length := by rw [h.fn]; exact hf
  obtain ⟨a0, b0⟩ := h.fi f hf
  have e2 : fs.getD f ([], 0) = fs[f] := by rw [List.getD_eq_getElem?_getD, List.getElem?_eq_getElem hf]; rfl
  have e3 : flen fs f = fs[f].1.length := by unfold flen; rw [e2]
  have hsz := h.sz fs[f] (List.getElem_mem hf)
  rw [e2] at hk
  have hkl : k ≤ flen fs f := by rw [hk, e3]; omega
  have hoB : oB (.slice fo k fc) = oB (x.sv f) := by rw [hsv]; cases fo <;> rfl
  have hcr : crF t fs[f] = (fs[f].1.take k, k) := by unfold crF; rw [hk, e3]
  have hown : Own w' B 5 (.slice fo k fc) (fs[f].1.take k) := by
    have h1 : Own w' B 5 (x.sv f) fs[f].1 := ownsRow_fr b0 F fun q hq hq2 => by
      obtain rfl : q = x.bk f := by simpa using hq2
      exact row_no b0 a0 (by intro cs e; simp at e) hq
    rw [hsv] at h1
    refine own_take h1 k hkl fun e => ?_
    obtain ⟨ao, cap, e5, h6, -, h5, -⟩ := h1.byt.open
    simp only [Value.slice.injEq] at e5
    obtain ⟨rfl, -, rfl⟩ := e5
    have hc0 : fc = 0 := by
      rcases Nat.eq_zero_or_pos fc with h | h
      · exact h
      · obtain ⟨a, ha⟩ := h5 h; rw [e] at ha; cases ha
    exact ⟨by omega, hc0⟩
  refine ⟨⟨?_, fun i hi => ?_, ?_, fun i j hi hj hij g hg => ?_, fun i hi => by rw [setV_bk]; exact h.lo i (by simpa using hi), fun y hy => ?_⟩, hoB⟩
  · simp [DX.setV, h.fn]
  · have hi2 : i < fs.length := by simpa using hi
    rw [setV_bk, setV_sv hfx, modify_at hi hi2, e2]
    by_cases e : i = f
    · subst e
      rw [if_pos rfl, if_pos rfl, hcr]
      exact ⟨hb, hown⟩
    · rw [if_neg e, if_neg e]
      obtain ⟨a, b⟩ := h.fi i hi2
      refine ⟨(F.block _ (Array.getElem?_eq_some_iff.1 a).1 (by simpa using h.bk_ne hi2 hf e)).trans a, ownsRow_fr b F fun q hq hq2 => ?_⟩
      obtain rfl : q = x.bk f := by simpa using hq2
      exact row_no b a0 (by intro cs e; simp at e) hq
  · rw [setV_fst hfx]; exact h.fd
  · have hi2 : i < fs.length := by simpa using hi
    have hj2 : j < fs.length := by simpa using hj
    rw [setV_sv hfx] at hg ⊢
    have hE : (Value.slice fo k fc).ownBlock = (x.sv f).ownBlock := by rw [hsv]; cases fo <;> rfl
    have e1 : ∀ q, (if q = f then Value.slice fo k fc else x.sv q).ownBlock = (x.sv q).ownBlock := fun q => by
      split
      · rename_i e; rw [e]; exact hE
      · rfl
    rw [e1] at hg ⊢
    exact h.od i j hi2 hj2 hij g hg
  · obtain ⟨i, hi, e⟩ := List.mem_iff_getElem.1 hy
    have hi2 : i < fs.length := by simpa using hi
    rw [modify_at hi hi2, e2] at e
    split at e
    · rw [← e, hcr]
      simp only [List.length_take]
      omega
    · rw [← e]; exact h.sz _ (List.getElem_mem hi2)
end
end Go.Proofs.YtinancnlangkjaaDoor

