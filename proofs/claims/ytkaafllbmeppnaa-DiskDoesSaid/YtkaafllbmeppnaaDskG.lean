/- Fuse, Read. -/
import Derived.Test.YtkaafllbmeppnaaDskZ
import Derived.Lib.SliceRun
set_option linter.unusedSimpArgs false
set_option linter.unusedVariables false
namespace Go.Proofs.Ytkaafllbmeppnaa
open Go Go.RowKit Go.Tum Go.ChangeMaps
open Go.ParB (upd Lof)
open Go.ParE (putS slotsR slots Closed)

set_option maxHeartbeats 1000000 in
theorem dfuse_any {B : Nat} {w : World} {p : Nat} {x : DX} {s : PS} (n : Int) (hn : n ≤ 9223372036854775807) (h : Dk B w p x s) (hB : B ≤ w.heap.size) :
    Calls Try.prog 28 #[pv p, .int .i64 n] w fun e w' => (∃ u, e = .returned u) ∧ Stp B w p x (fusP s n) w' := by
  have hmx : (if n < -1 then (-1 : Int) else n) = max n (-1) := by split <;> omega
  have hb := block_set6 h.hd 4 (.int .i64 (max n (-1)))
  have HS : Hid (Stp B w p x (fusP s n) (w.setCell ⟨p, 4, none⟩ (.int .i64 (max n (-1))))) := hid ⟨x, h.cellSet 4 (.int .i64 (max n (-1))) (fusP s n) ⟨rfl, rfl, rfl, rfl⟩ (by show -1 ≤ max n (-1) ∧ max n (-1) ≤ _; omega) hb, fr_setCell _ _ _ (by simp [DX.blk]), (Below.refl B w).setCell (by exact h.lo.1) _, fun q hq => .inl hq⟩
  obtain ⟨⟨-, -, -, -, c4, -⟩, ff⟩ := lk6 h.hd
  have f4 := ff 4
  clear h hb ff
  by_cases hlt : n < -1
  · have e : max n (-1) = -1 := by omega
    rw [e] at HS hmx
    go_enter Try.func28, Try.ntmps28
    go_wp2
    go_returns
    exact ⟨⟨_, rfl⟩, HS.out⟩
  · have e : max n (-1) = n := by omega
    rw [e] at HS hmx
    go_enter Try.func28, Try.ntmps28
    go_wp2
    go_returns
    exact ⟨⟨_, rfl⟩, HS.out⟩
set_option maxRecDepth 100000 in
/-- slices.Clone. -/
theorem bclone_any (w : World) (u : Value) (l : List UInt8) (hu : Byt w u l) (hl : l.length ≤ 140737488355328) :
    Calls Try.prog 44 #[u] w fun e w' => (∃ v, e = .returned v ∧ Own w' w.heap.size 5 v l) ∧ Ext w w' := by
  have q32 : ∀ (w : World) (a : Option Addr) (n c : Nat), (binOp .eql 32 (.slice a n c) (.slice none 0 0)).run Try.prog w = .ok (.bool a.isNone) w := fun w a n c => Lib.run_eql_slice_nil w _ _ a n c 0 0 Try.underlying32
  have HU := hid hu
  obtain ⟨uo, uc, rfl, hle, hmx, hnn, -⟩ := hu.open
  clear hu
  cases uo with
  | none =>
    have h0 : l = [] := by
      rcases Nat.eq_zero_or_pos uc with h | h
      · exact List.length_eq_zero_iff.1 (by omega)
      · obtain ⟨a, ha⟩ := hnn h; cases ha
    subst h0
    clear hnn
    go_enter Try.func44, Try.ntmps44
    go_wp2
    go_ret
    exact ⟨⟨_, rfl, Own.nil _ _ _⟩, Ext.refl _⟩
  | some a =>
    clear hnn
    go_enter Try.func44, Try.ntmps44
    go_wp2_with (at_builtin; refine wpList_append_byt rfl (.tmp 5) (.tmp 6) 32 rfl w.heap.size 5 Try.underlying32 infoU8 rfl (own_lit w w.heap.size 5 [] #[] rfl 0 rfl (Nat.le_refl _) (by simp [maxLen])) rfl (HU.out.ext (Ext.alloc _ _)) l.length (by simp) hl (by simp) ?_; intro ao2 cap2 w2 hO2 hg2 hb2; have HO2 := hid hO2; have HE2 : Hid (Ext w w2) := hid (Below.trans (Ext.alloc _ _) hb2); clear hO2 hg2 hb2)
    go_ret
    have := HO2.out
    rw [List.nil_append] at this
    exact ⟨⟨_, rfl, this⟩, HE2.out⟩
def rdE (s : PS) (n : Nm) : Nat := if s.down then 7 else if look s.dir n = none then 5 else 0
def rdB (s : PS) (n : Nm) : List UInt8 := if s.down then [] else match look s.dir n with
  | none => []
  | some f => (s.files.getD f ([], 0)).1
def ReadP (B : Nat) (w : World) (s : PS) (n : Nm) (e : Ending) (w' : World) : Prop := (∃ v, e = .returned (.tuple #[v, .int .i64 (rdE s n : Nat)]) ∧ Own w' w.heap.size 5 v (rdB s n)) ∧ Ext w w'
set_option maxHeartbeats 1000000 in
theorem dread_any {B : Nat} {w : World} {p : Nat} {x : DX} {s : PS} (n : Nm) (hk : n.length ≤ maxLen) (h : Dk B w p x s) :
    Calls Try.prog 21 #[pv p, vN n] w fun e w' => ReadP B w s n e w' := by
  obtain ⟨⟨-, c1, -, -, -, c5⟩, -⟩ := lk6 h.hd
  have hlk := h.dr.look n hk
  rw [hb_look] at hlk
  have H := hid h
  clear h
  cases hd : s.down with
  | true =>
    rw [hd] at c5
    have HE : Hid (rdE s n = 7 ∧ rdB s n = []) := hid ⟨by unfold rdE; rw [hd]; rfl, by unfold rdB; rw [hd]; rfl⟩
    clear hlk hd
    go_enter Try.func21, Try.ntmps21
    go_wp2
    go_returns
    unfold ReadP
    rw [HE.out.1, HE.out.2]
    exact ⟨⟨_, rfl, Own.nil _ _ _⟩, Ext.refl _⟩
  | false =>
    rw [hd] at c5
    cases hf : look s.dir n with
    | none =>
      have HE : Hid (rdE s n = 5 ∧ rdB s n = []) := hid ⟨by unfold rdE; rw [hd, hf]; rfl, by unfold rdB; rw [hd, hf]; rfl⟩
      rw [hf] at hlk
      simp only [Option.map_none, ptr] at hlk
      clear hf hd
      go_enter Try.func21, Try.ntmps21
      go_wp2
      go_returns
      unfold ReadP
      rw [HE.out.1, HE.out.2]
      exact ⟨⟨_, rfl, Own.nil _ _ _⟩, Ext.refl _⟩
    | some f =>
      have HE : Hid (rdE s n = 0 ∧ rdB s n = (s.files.getD f ([], 0)).1) := hid ⟨by unfold rdE; rw [hd, hf]; rfl, by unfold rdB; rw [hd, hf]; rfl⟩
      rw [hf] at hlk
      simp only [Option.map_some, ptr] at hlk
      have hfl := (H.out.gd.dnm (look_mem hf)).2
      obtain ⟨fo, fc, hblk, hsv, hown⟩ := H.out.file hfl
      obtain ⟨q0, -, -⟩ := lk2 hblk
      have HOWN := hid hown
      have HLB := hid (H.out.gd.fl _ (getD_mem (d := ([], 0)) hfl)).2
      clear hf hd hblk hsv hown hfl
      generalize x.bk f = bf at *
      generalize flen s.files f = fl at *
      go_enter Try.func21, Try.ntmps21
      go_wp2_with fail
      refine (bclone_any w _ _ HOWN.out.byt (by have := HLB.out; omega)).mono ?_
      rintro e w2 ⟨⟨v, rfl, ho⟩, hE⟩
      have HO := hid ho
      have HEE := hid hE
      clear ho hE
      go_wp2
      go_returns
      unfold ReadP
      rw [HE.out.1, HE.out.2]
      exact ⟨⟨_, rfl, HO.out⟩, HEE.out⟩
end Go.Proofs.Ytkaafllbmeppnaa
