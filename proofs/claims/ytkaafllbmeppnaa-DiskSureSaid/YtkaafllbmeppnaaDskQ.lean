/- DiskSure: mathematics. -/
import Derived.Test.YtkaafllbmeppnaaDskL
set_option linter.unusedSimpArgs false
set_option linter.unusedVariables false
namespace Go.Proofs.Ytkaafllbmeppnaa
open Go Go.RowKit Go.Tum Go.ChangeMaps

/-- The name is file 0's, whatever crashes; its bytes, how many are sure. -/
structure SI (s : PS) (nm : Nm) (all : List UInt8) (L : Nat) : Prop where
  lk : ∀ k, look (dirAt s.sure (s.opn.take k)) nm = some 0
  fi : s.files[0]? = some (all, L)
theorem SI.dir {s : PS} {nm : Nm} {all : List UInt8} {L : Nat} (h : SI s nm all L) : look s.dir nm = some 0 := by
  have := h.lk s.opn.length
  rwa [List.take_length] at this
theorem SI.fus {s : PS} {nm : Nm} {all : List UInt8} {L : Nat} (h : SI s nm all L) (f : Int) (d : Bool) : SI { s with fuse := f, down := d } nm all L := ⟨h.lk, h.fi⟩
/-- A change of other names. -/
theorem SI.alt {s : PS} {nm : Nm} {all : List UInt8} {L : Nat} (h : SI s nm all L) (c : Chg) (hl : look (appC s.dir c) nm = some 0) : SI { s with opn := s.opn ++ [c] } nm all L := by
  refine ⟨fun k => ?_, h.fi⟩
  show look (dirAt s.sure ((s.opn ++ [c]).take k)) nm = some 0
  by_cases hk : k ≤ s.opn.length
  · rw [List.take_append_of_le_length hk]
    exact h.lk k
  · rw [List.take_of_length_le (by simp; omega)]
    have e1 : dirAt s.sure (s.opn ++ [c]) = appC s.dir c := by unfold PS.dir dirAt; simp only [List.foldl_append, List.foldl_cons, List.foldl_nil]
    rw [e1]
    exact hl
theorem look_inN2 {d : Dir} {n nm : Nm} {f : Nat} (hn : nm ≠ n) (h : look d nm = some 0) (hd : look d n = none) : look (inN d n f) nm = some 0 := by
  rw [look_inN hd, if_neg hn]; exact h
theorem look_noN2 {d : Dir} {n nm : Nm} (hn : nm ≠ n) (h : look d nm = some 0) : look (noN d n) nm = some 0 := by
  rw [look_noN, if_neg hn]; exact h
theorem SI.modify {s : PS} {nm : Nm} {all : List UInt8} {L : Nat} (h : SI s nm all L) (hw : WF s) (n : Nm) (hn : n ≠ nm) (g : List UInt8 × Nat → List UInt8 × Nat) : SI { s with files := setF s.files (look s.dir n) g } nm all L := by
  refine ⟨h.lk, ?_⟩
  show (setF s.files (look s.dir n) g)[0]? = _
  cases hf : look s.dir n with
  | none => exact h.fi
  | some f =>
    have hne : f ≠ 0 := by
      intro e
      subst e
      have m1 := look_mem hf
      have m2 := look_mem h.dir
      obtain ⟨i, hi, e1⟩ := List.mem_iff_getElem.1 m1
      obtain ⟨j, hj, e2⟩ := List.mem_iff_getElem.1 m2
      have e3 : (s.dir.map Prod.snd)[i]'(by simpa using hi) = (s.dir.map Prod.snd)[j]'(by simpa using hj) := by simp [e1, e2]
      have := (List.getElem_inj hw.dir.nd).1 e3
      subst this
      rw [e1] at e2
      exact hn (by cases e2; rfl)
    show (s.files.modify f g)[0]? = _
    rw [List.getElem?_modify, h.fi]
    simp [hne]
theorem doP_si {s : PS} {nm : Nm} {all : List UInt8} {L : Nat} (h : SI s nm all L) (e : Nat) (act : PS → PS) (h1 : e = 0 → SI (act (fusS s)) nm all L) : SI (doP s e act).2 nm all L := by
  unfold doP
  split
  · exact h
  · split
    · exact h
    · rename_i he
      split
      · exact h.fus _ _
      · exact h1 (by simpa using he)
theorem si_len {s : PS} {nm : Nm} {all : List UInt8} {L : Nat} (h : SI s nm all L) : 0 < s.files.length := (List.getElem?_eq_some_iff.1 h.fi).1
/-- An act that is none of the name's, but for its Append. -/
def sureA (nm : Nm) (all : List UInt8) (s : PS) (a : At) : List UInt8 := if a.dn = 1 ∧ a.name = nm ∧ (actS s a).1 = 0 then all ++ a.b else all
theorem act_si {s : PS} {nm : Nm} {all : List UInt8} {L : Nat} (h : SI s nm all L) (hw : WF s) (a : At) (h8 : a.dn ≠ 8) (hx : a.dn ≠ 1 → a.name ≠ nm ∧ a.to ≠ nm) : SI (actS s a).2 nm (sureA nm all s a) L := by
  have hF := h.fus (if 0 < s.fuse then s.fuse - 1 else s.fuse) s.down
  have hwF : WF (fusS s) := hw.pow _ _ (by have := hw.fu; split <;> omega)
  have hFS : SI (fusS s) nm all L := hF
  have hnn : nm ≠ [] := fun e => by
    have := (nmOk_len (hw.dir.nm _ (look_mem h.dir)).1).1
    simp only [e] at this
    simp at this
  by_cases d1 : a.dn = 1
  · have ea : actS s a = appP s a.name a.b := by simp [actS, d1]
    by_cases hname : a.name = nm
    · have e0 := ea
      unfold appP at ea
      by_cases her : (actS s a).1 = 0
      · have es : sureA nm all s a = all ++ a.b := by unfold sureA; rw [if_pos ⟨d1, hname, her⟩]
        rw [es]
        rw [ea] at her
        have hok : doP s (appE s a.name a.b) (fun s => { s with files := setF s.files (look s.dir a.name) fun x => (x.1 ++ a.b, x.2) }) = (0, { fusS s with files := setF (fusS s).files (look (fusS s).dir a.name) fun x => (x.1 ++ a.b, x.2) }) := by
          unfold doP at her ⊢
          split at her
          · cases her
          · rename_i q1
            split at her
            · rename_i q2; exact absurd her q2
            · rename_i q2
              split at her
              · cases her
              · rename_i q3
                rw [if_neg q1, if_neg q2, if_neg q3]
                rfl
        rw [ea, hok]
        refine ⟨h.lk, ?_⟩
        show (setF s.files (look s.dir a.name) fun x => (x.1 ++ a.b, x.2))[0]? = _
        rw [hname, h.dir]
        show (s.files.modify 0 fun x => (x.1 ++ a.b, x.2))[0]? = _
        rw [List.getElem?_modify, h.fi]
        rfl
      · have es : sureA nm all s a = all := by unfold sureA; rw [if_neg (fun q => her q.2.2)]
        rw [es]
        rw [ea] at her ⊢
        unfold doP at her ⊢
        split
        · exact h
        · rename_i q1
          split
          · exact h
          · rename_i q2
            split
            · exact h.fus _ _
            · rename_i q3
              rw [if_neg q1, if_neg q2, if_neg q3] at her
              exact absurd rfl her
    · have es : sureA nm all s a = all := by unfold sureA; rw [if_neg (fun q => hname q.2.1)]
      rw [es, ea]
      exact doP_si h _ _ fun _ => hFS.modify hwF a.name hname _
  have es : sureA nm all s a = all := by unfold sureA; rw [if_neg (fun q => d1 q.1)]
  rw [es]
  obtain ⟨x1, x2⟩ := hx d1
  unfold actS
  split
  · refine doP_si h _ _ fun he => ?_
    have hlk : look (fusS s).dir a.name = none := by
      unfold creE at he
      split at he
      · cases he
      split at he
      · cases he
      rename_i hlk
      show look s.dir a.name = none
      cases hq : look s.dir a.name with
      | none => rfl
      | some f => rw [hq] at hlk; simp at hlk
    have hlen := si_len h
    have := SI.alt (s := { fusS s with files := (fusS s).files ++ [([], 0)] }) ⟨hFS.lk, by show ((fusS s).files ++ [([], 0)])[0]? = _; rw [List.getElem?_append_left (by exact hlen)]; exact hFS.fi⟩ ⟨[], a.name, some (fusS s).files.length⟩ (by
      show look (inN (noN (noN (fusS s).dir []) a.name) a.name _) nm = some 0
      exact look_inN2 (Ne.symm x1) (look_noN2 (Ne.symm x1) (look_noN2 hnn hFS.dir)) (by rw [look_noN, if_pos rfl]))
    exact this
  · split
    · exact doP_si h _ _ fun _ => hFS.modify hwF a.name x1 _
    split
    · exact doP_si h _ _ fun _ => hFS.modify hwF a.name x1 _
    split
    · refine doP_si h _ _ fun he => ?_
      obtain ⟨g, hg⟩ : ∃ g, look (fusS s).dir a.name = some g := by
        unfold renE at he
        split at he
        · cases he
        rename_i hlk
        show ∃ g, look s.dir a.name = some g
        cases hq : look s.dir a.name with
        | none => exact absurd hq hlk
        | some g => exact ⟨g, rfl⟩
      have := SI.alt hFS ⟨a.name, a.to, look (fusS s).dir a.name⟩ (by
        rw [hg]
        show look (inN (noN (noN (fusS s).dir a.name) a.to) a.to g) nm = some 0
        exact look_inN2 (Ne.symm x2) (look_noN2 (Ne.symm x2) (look_noN2 (Ne.symm x1) hFS.dir)) (by rw [look_noN, if_pos rfl]))
      exact this
    split
    · refine doP_si h _ _ fun he => ?_
      exact SI.alt hFS ⟨a.name, [], none⟩ (look_noN2 (Ne.symm x1) hFS.dir)
    split
    · refine doP_si h _ _ fun he => ⟨fun k => ?_, hFS.fi⟩
      show look (dirAt (fusS s).dir (List.take k [])) nm = some 0
      rw [List.take_nil]
      exact hFS.dir
    split
    · exact h.fus _ _
    exact h
/-- A crash keeps what is sure, and a beginning of the rest. -/
theorem crA_other : ∀ (d : Dir) (ts : List Int) (fs : List (List UInt8 × Nat)) (f : Nat), f ∉ d.map Prod.snd → (crA d ts fs)[f]? = fs[f]?
  | [], _, _, _, _ => rfl
  | z :: r, ts, fs, f, h => by
    rw [List.map_cons, List.mem_cons, not_or] at h
    show (crA r ts.tail (fs.modify z.2 (crF (ts.headD 0))))[f]? = _
    rw [crA_other r _ _ f h.2, List.getElem?_modify]
    cases fs[f]? with
    | none => rfl
    | some y => simp [Ne.symm h.1]
theorem crA_once : ∀ (d : Dir) (ts : List Int) (fs : List (List UInt8 × Nat)) (f : Nat) (x : List UInt8 × Nat), (d.map Prod.snd).Nodup → f ∈ d.map Prod.snd → fs[f]? = some x → ∃ t, (crA d ts fs)[f]? = some (crF t x)
  | [], _, _, _, _, _, h, _ => absurd h (by simp)
  | z :: r, ts, fs, f, x, hn, h, hx => by
    rw [List.map_cons, List.nodup_cons] at hn
    show ∃ t, (crA r ts.tail (fs.modify z.2 (crF (ts.headD 0))))[f]? = some (crF t x)
    by_cases e : z.2 = f
    · refine ⟨ts.headD 0, ?_⟩
      rw [crA_other r _ _ f (by rw [← e]; exact hn.1), List.getElem?_modify, hx]
      simp [e]
    · refine crA_once r ts.tail _ f x hn.2 ?_ ?_
      · rw [List.map_cons, List.mem_cons] at h
        rcases h with h | h
        · exact absurd h.symm e
        · exact h
      · rw [List.getElem?_modify, hx]
        simp [e]
theorem sure_crash {s : PS} {nm : Nm} {all : List UInt8} {L : Nat} (h : SI s nm all L) (hw : WF s) (hL : L ≤ all.length) (k : Int) (ts : List Int) :
    rdE (crP s k ts) nm = 0 ∧ ∃ j, L ≤ j ∧ j ≤ all.length ∧ rdB (crP s k ts) nm = all.take j := by
  have hlk := h.lk k.toNat
  have hdir : (crP s k ts).dir = dirAt s.sure (s.opn.take k.toNat) := rfl
  obtain ⟨t, ht⟩ := crA_once (dirAt s.sure (s.opn.take k.toNat)) ts s.files 0 (all, L) (hw.px k.toNat).nd (List.mem_map_of_mem (f := Prod.snd) (look_mem hlk)) h.fi
  refine ⟨?_, L + (min (max t 0) ((all.length : Int) - L)).toNat, by omega, by omega, ?_⟩
  · unfold rdE
    rw [hdir, hlk]
    rfl
  · unfold rdB
    rw [hdir, hlk]
    show ((crA (dirAt s.sure (s.opn.take k.toNat)) ts s.files).getD 0 ([], 0)).1 = _
    rw [List.getD_eq_getElem?_getD, ht]
    rfl
end Go.Proofs.Ytkaafllbmeppnaa
