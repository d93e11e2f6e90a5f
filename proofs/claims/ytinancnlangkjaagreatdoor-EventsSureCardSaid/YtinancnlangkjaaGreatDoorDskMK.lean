/- The disk's state stays right. -/
import Derived.Test.YtinancnlangkjaaGreatDoorDskMJ
set_option linter.unusedSimpArgs false
set_option linter.unusedVariables false
namespace Go.Proofs.YtinancnlangkjaaGreatDoor
open Go Go.RowKit Go.Tum Go.ChangeMaps

def cnk (s : PS) (k : Nat) : List Nat := s.sure.map Prod.snd ++ newOf (s.opn.take k)
/-- A directory may be, its files among l. -/
structure DOk (d : Dir) (l : List Nat) : Prop where
  so : Sorted d
  nm : ∀ z ∈ d, nmOk z.1 = true ∧ z.2 ∈ l
  nd : (d.map Prod.snd).Nodup
  le : d.length ≤ 60
structure WF (s : PS) : Prop where
  rm : s.room ≤ 1048576
  px : ∀ k, DOk (dirAt s.sure (s.opn.take k)) (cnk s k)
  op : ∀ c ∈ s.opn, c.frm.length ≤ 12 ∧ c.to.length ≤ 12 ∧ (∀ f, c.file = some f → f < s.files.length) ∧ (c.frm = [] → c.file.isSome = true)
  nd : (cntd s).Nodup
  lt : ∀ f ∈ cntd s, f < s.files.length
  fl : ∀ x ∈ s.files, x.2 ≤ x.1.length ∧ x.1.length ≤ 1048576
  hd : held s ≤ s.room
  fu : -1 ≤ s.fuse ∧ s.fuse ≤ 9223372036854775807
theorem cnk_sub {s : PS} {k : Nat} {f : Nat} (h : f ∈ cnk s k) : f ∈ cntd s := by
  unfold cnk at h
  unfold cntd
  rcases List.mem_append.1 h with h | h
  · exact List.mem_append_left _ h
  · refine List.mem_append_right _ ?_
    obtain ⟨c, hc, e⟩ := List.mem_filterMap.1 h
    exact List.mem_filterMap.2 ⟨c, List.mem_of_mem_take hc, e⟩
theorem cnk_all (s : PS) : cnk s s.opn.length = cntd s := by unfold cnk cntd; rw [List.take_length]
theorem WF.gd {s : PS} (h : WF s) : Gd s :=
  ⟨h.rm, fun k => (h.px k).so, fun k z hz => ⟨((h.px k).nm z hz).1, h.lt _ (cnk_sub ((h.px k).nm z hz).2)⟩, h.op, h.fl, h.hd, fun k => (h.px k).le, h.fu⟩
theorem WF.dir {s : PS} (h : WF s) : DOk s.dir (cntd s) := by
  have := h.px s.opn.length
  rw [List.take_length, cnk_all] at this
  exact this
theorem wf_new {room : Nat} (h : room ≤ 1048576) : WF (newP room) := by
  refine ⟨h, fun k => ⟨?_, ?_, ?_, ?_⟩, ?_, ?_, ?_, ?_, ?_, by simp [newP]⟩
  · simp [newP, dirAt]
  · intro z hz; simp [newP, dirAt] at hz
  · simp [newP, dirAt]
  · simp [newP, dirAt]
  · intro c hc; simp [newP] at hc
  · simp [newP, cntd, newOf]
  · intro f hf; simp [newP, cntd, newOf] at hf
  · intro y hy; simp [newP] at hy
  · simp [newP, held, cntd, newOf, sumL]
/-- Fuse and power. -/
theorem WF.pow {s : PS} (h : WF s) (fu : Int) (dn : Bool) (hf : -1 ≤ fu ∧ fu ≤ 9223372036854775807) : WF { s with fuse := fu, down := dn } := ⟨h.rm, h.px, h.op, h.nd, h.lt, h.fl, h.hd, hf⟩
theorem sumL_zero {fs : List (List UInt8 × Nat)} {l : List Nat} (h : ∀ f ∈ l, flen fs f = 0) : sumL fs l = 0 := by
  unfold sumL
  induction l with
  | nil => rfl
  | cons a r ih =>
    rw [List.map_cons, List.sum_cons, h a (by simp), ih fun f hf => h f (List.mem_cons_of_mem _ hf)]
/-- A change more. -/
theorem WF.alt {s : PS} (h : WF s) (fs : List (List UInt8 × Nat)) (c : Chg) (hfs : s.files.length ≤ fs.length) (hsame : ∀ f, f < s.files.length → flen fs f = flen s.files f) (hfl : ∀ x ∈ fs, x.2 ≤ x.1.length ∧ x.1.length ≤ 1048576)
    (hc : c.frm.length ≤ 12 ∧ c.to.length ≤ 12 ∧ (∀ f, c.file = some f → f < fs.length) ∧ (c.frm = [] → c.file.isSome = true))
    (hn : ∀ f, c.frm = [] → c.file = some f → f ∉ cntd s ∧ flen fs f = 0) (hd : DOk (appC s.dir c) (cntd s ++ newOf [c])) : WF { s with files := fs, opn := s.opn ++ [c] } := by
  have hcn : cntd { s with files := fs, opn := s.opn ++ [c] } = cntd s ++ newOf [c] := by
    unfold cntd
    simp only [newOf_append, List.append_assoc]
  have hone : ∀ f ∈ newOf [c], c.frm = [] ∧ c.file = some f := by
    intro f hf
    obtain ⟨c', hc', e1, e2⟩ := newOf_mem hf
    simp at hc'; subst hc'
    exact ⟨e2, e1⟩
  refine ⟨h.rm, fun k => ?_, fun c' hc' => ?_, ?_, fun f hf => ?_, hfl, ?_, h.fu⟩
  · show DOk (dirAt s.sure ((s.opn ++ [c]).take k)) (s.sure.map Prod.snd ++ newOf ((s.opn ++ [c]).take k))
    by_cases hk : k ≤ s.opn.length
    · rw [List.take_append_of_le_length hk]
      exact h.px k
    · rw [List.take_of_length_le (by simp; omega)]
      have e1 : dirAt s.sure (s.opn ++ [c]) = appC s.dir c := by unfold PS.dir dirAt; simp only [List.foldl_append, List.foldl_cons, List.foldl_nil]
      rw [e1, newOf_append, ← List.append_assoc]
      exact hd
  · rcases List.mem_append.1 hc' with h1 | h1
    · obtain ⟨a1, a2, a3, a4⟩ := h.op c' h1
      exact ⟨a1, a2, fun f hf => Nat.lt_of_lt_of_le (a3 f hf) hfs, a4⟩
    · simp at h1; subst h1; exact hc
  · rw [hcn, List.nodup_append]
    refine ⟨h.nd, ?_, fun a ha b hb e => ?_⟩
    · unfold newOf
      simp only [List.filterMap_cons, List.filterMap_nil]
      split <;> simp
    · obtain ⟨e1, e2⟩ := hone b hb
      rw [← e] at e2
      exact (hn a e1 e2).1 ha
  · rw [hcn] at hf
    rcases List.mem_append.1 hf with h1 | h1
    · exact Nat.lt_of_lt_of_le (h.lt f h1) hfs
    · exact hc.2.2.1 f (hone f h1).2
  · show sumL fs (cntd { s with files := fs, opn := s.opn ++ [c] }) ≤ s.room
    rw [hcn, sumL_append]
    have e1 : sumL fs (cntd s) = held s := sumL_congr fun f hf => hsame f (h.lt f hf)
    have e2 : sumL fs (newOf [c]) = 0 := sumL_zero fun f hf => by
      obtain ⟨e1, e2⟩ := hone f hf
      exact (hn f e1 e2).2
    have := h.hd
    omega
theorem noN_nil {d : Dir} {l : List Nat} (h : DOk d l) : noN d [] = d := noN_same (look_none.2 fun hm => by
  obtain ⟨z, hz, e⟩ := List.mem_map.1 hm
  have := nmOk_len (h.nm z hz).1
  rw [e] at this; simp at this)
theorem DOk.noN {d : Dir} {l : List Nat} (h : DOk d l) (n : Nm) : DOk (noN d n) l :=
  ⟨noN_sorted h.so n, fun z hz => h.nm z (noN_mem.1 hz).1, (List.filter_sublist.map Prod.snd).nodup h.nd, Nat.le_trans (List.length_filter_le _ _) h.le⟩
theorem DOk.inN {d : Dir} {l : List Nat} (h : DOk d l) {n : Nm} {f : Nat} (hn : look d n = none) (ho : nmOk n = true) (hf : f ∈ l) (hnf : f ∉ d.map Prod.snd) (hl : d.length < 60) : DOk (inN d n f) l := by
  refine ⟨inN_sorted h.so hn, fun z hz => ?_, ?_, by rw [inN_len]; omega⟩
  · rcases inN_mem.1 hz with rfl | hz
    · exact ⟨ho, hf⟩
    · exact h.nm z hz
  · rw [((inN_perm d n f).map Prod.snd).nodup_iff, List.map_cons, List.nodup_cons]
    exact ⟨hnf, h.nd⟩
theorem DOk.mono {d : Dir} {l l' : List Nat} (h : DOk d l) (hs : ∀ f ∈ l, f ∈ l') : DOk d l' := ⟨h.so, fun z hz => ⟨(h.nm z hz).1, hs _ (h.nm z hz).2⟩, h.nd, h.le⟩
theorem WF.doP {s : PS} (h : WF s) (e : Nat) (act : PS → PS) (ha : s.down = false → e = 0 → s.fuse ≠ 0 → ∀ s', s' = fusS s → WF s' → WF (act s')) : WF (doP s e act).2 := by
  unfold Go.Proofs.YtinancnlangkjaaGreatDoor.doP
  split
  · exact h
  · rename_i hd
    split
    · exact h
    · rename_i he
      split
      · exact h.pow _ _ h.fu
      · rename_i hf
        refine ha (by simpa using hd) (by simpa using he) hf (fusS s) rfl (h.pow _ _ ?_)
        have := h.fu
        split <;> omega
theorem WF.cre {s : PS} (h : WF s) (n : Nm) : WF (creP s n).2 := by
  refine h.doP _ _ fun h1 h2 h3 s' hs' hw => ?_
  have hdir : s'.dir = s.dir := by rw [hs']; rfl
  unfold creE at h2
  split at h2
  · cases h2
  rename_i hok
  split at h2
  · cases h2
  rename_i hlk
  split at h2
  · cases h2
  rename_i hl
  have hok' : nmOk n = true := by simpa using hok
  have hlk' : look s'.dir n = none := by rw [hdir]; cases hq : look s.dir n with
    | none => rfl
    | some f => rw [hq] at hlk; simp at hlk
  have hnl := nmOk_len hok'
  refine WF.alt hw _ _ (by simp) (fun f hf => flen_app hf) (fun x hx => ?_) ⟨by simp, hnl.2, fun f hf => ?_, fun _ => rfl⟩ (fun f _ hf => ?_) ?_
  · rcases List.mem_append.1 hx with hx | hx
    · exact hw.fl x hx
    · simp at hx; subst hx; simp
  · cases hf; simp
  · cases hf
    refine ⟨fun hm => Nat.lt_irrefl _ (hw.lt _ hm), ?_⟩
    unfold flen
    simp [List.getD_eq_getElem?_getD]
  · have hD := hw.dir
    show DOk (inN (noN (noN s'.dir []) n) n s'.files.length) _
    rw [noN_nil hD, noN_same hlk']
    refine (hD.mono fun f hf => List.mem_append_left _ hf).inN hlk' hok' ?_ ?_ (by rw [hdir]; omega)
    · refine List.mem_append_right _ ?_
      simp [newOf]
    · intro hm
      obtain ⟨z, hz, e⟩ := List.mem_map.1 hm
      have := hw.lt _ (hD.nm z hz).2
      omega
theorem WF.del {s : PS} (h : WF s) (n : Nm) : WF (delP s n).2 := by
  refine h.doP _ _ fun h1 h2 h3 s' hs' hw => ?_
  have hdir : s'.dir = s.dir := by rw [hs']; rfl
  obtain ⟨f, hf⟩ := miss_some h2
  rw [← hdir] at hf
  have hD := hw.dir
  have hnl := nmOk_len (hD.nm _ (look_mem hf)).1
  simp only at hnl
  have hnn : n ≠ [] := fun e => by rw [e] at hnl; simp at hnl
  have := WF.alt hw s'.files ⟨n, [], none⟩ (Nat.le_refl _) (fun f _ => rfl) hw.fl ⟨hnl.2, by simp, fun f hf => (by cases hf), fun e => absurd e hnn⟩ (fun f e => absurd e hnn) (by
    have e1 : newOf [(⟨n, [], none⟩ : Chg)] = [] := by simp [newOf, hnn]
    rw [e1, List.append_nil]
    exact hD.noN n)
  exact this
theorem WF.ren {s : PS} (h : WF s) (n m : Nm) : WF (renP s n m).2 := by
  refine h.doP _ _ fun h1 h2 h3 s' hs' hw => ?_
  have hdir : s'.dir = s.dir := by rw [hs']; rfl
  unfold renE at h2
  split at h2
  · cases h2
  rename_i hlk
  split at h2
  · cases h2
  rename_i hok
  have hok' : nmOk m = true := by simpa using hok
  obtain ⟨f, hf⟩ : ∃ f, look s'.dir n = some f := by
    rw [hdir]
    cases hq : look s.dir n with
    | none => exact absurd hq hlk
    | some f => exact ⟨f, rfl⟩
  have hD := hw.dir
  have hmem := look_mem hf
  have hnl := nmOk_len (hD.nm _ hmem).1
  simp only at hnl
  have hml := nmOk_len hok'
  have hnn : n ≠ [] := fun e => by rw [e] at hnl; simp at hnl
  have hfile : f ∈ cntd s' := (hD.nm _ hmem).2
  have hlen := noN_len hD.so (n := n) (by rw [hf]; rfl)
  have := WF.alt hw s'.files ⟨n, m, some f⟩ (Nat.le_refl _) (fun f _ => rfl) hw.fl ⟨hnl.2, hml.2, fun g hg => by cases hg; exact hw.lt f hfile, fun e => absurd e hnn⟩ (fun f e => absurd e hnn) (by
    have e1 : newOf [(⟨n, m, some f⟩ : Chg)] = [] := by simp [newOf, hnn]
    rw [e1, List.append_nil]
    show DOk (inN (noN (noN s'.dir n) m) m f) _
    refine ((hD.noN n).noN m).inN (by rw [look_noN, if_pos rfl]) hok' hfile (fun hm => ?_) ?_
    · obtain ⟨z, hz, e⟩ := List.mem_map.1 hm
      obtain ⟨hz2, hzm⟩ := noN_mem.1 hz
      obtain ⟨hz3, hzn⟩ := noN_mem.1 hz2
      have hp := (List.nodup_iff_pairwise_ne.1 hD.nd)
      have : z = (n, f) := by
        obtain ⟨i, hi, e1⟩ := List.mem_iff_getElem.1 hz3
        obtain ⟨j, hj, e2⟩ := List.mem_iff_getElem.1 hmem
        have e3 : (s'.dir.map Prod.snd)[i]'(by simpa using hi) = (s'.dir.map Prod.snd)[j]'(by simpa using hj) := by simp [e1, e2, e]
        have := (List.getElem_inj hD.nd).1 e3
        subst this
        rw [← e1, ← e2]
      exact hzn (by rw [this])
    · have := hD.le
      have := List.length_filter_le (fun p : Nm × Nat => p.1 != m) (noN s'.dir n)
      unfold Go.Proofs.YtinancnlangkjaaGreatDoor.noN at *
      omega)
  rw [hf]
  exact this
/-- A file's bytes turn. -/
theorem WF.fil {s : PS} (h : WF s) {f : Nat} (hf : f ∈ cntd s) (g : List UInt8 × Nat → List UInt8 × Nat) (hg : ∀ y ∈ s.files, (g y).2 ≤ (g y).1.length) (hl : held s - flen s.files f + (g (s.files.getD f ([], 0))).1.length ≤ s.room) : WF (FilS s f g) := by
  have hfl := h.lt f hf
  have hlen : (FilS s f g).files.length = s.files.length := by simp [FilS]
  have hfo : ∀ i, i ≠ f → flen (FilS s f g).files i = flen s.files i := fun i hi => by
    unfold flen FilS
    simp only [List.getD_eq_getElem?_getD, List.getElem?_modify]
    cases s.files[i]? <;> simp [Ne.symm hi]
  have hff : flen (FilS s f g).files f = (g (s.files.getD f ([], 0))).1.length := by
    unfold flen FilS
    simp only [List.getD_eq_getElem?_getD, List.getElem?_modify, if_true]
    rw [List.getElem?_eq_getElem hfl]
    simp
  have hsum : ∀ l : List Nat, l.Nodup → (f ∉ l → sumL (FilS s f g).files l = sumL s.files l) ∧ (f ∈ l → sumL (FilS s f g).files l + flen s.files f = sumL s.files l + (g (s.files.getD f ([], 0))).1.length) := by
    intro l
    induction l with
    | nil => intro _; exact ⟨fun _ => rfl, fun h => absurd h (by simp)⟩
    | cons a r ih =>
      intro hn
      rw [List.nodup_cons] at hn
      obtain ⟨i1, i2⟩ := ih hn.2
      unfold sumL at i1 i2 ⊢
      simp only [List.map_cons, List.sum_cons]
      by_cases e : a = f
      · subst e
        refine ⟨fun h => absurd (by simp) h, fun _ => ?_⟩
        rw [i1 hn.1, hff]
        omega
      · rw [hfo a e]
        refine ⟨fun h => ?_, fun h => ?_⟩
        · rw [i1 (fun hm => h (List.mem_cons_of_mem _ hm))]
        · have := i2 (by rcases List.mem_cons.1 h with h | h; exact absurd h.symm e; exact h)
          omega
  have hheld : held (FilS s f g) + flen s.files f = held s + (g (s.files.getD f ([], 0))).1.length := (hsum (cntd s) h.nd).2 hf
  have hle : flen s.files f ≤ held s := sum_le hf
  have hnew : held (FilS s f g) ≤ s.room := by omega
  refine ⟨h.rm, h.px, fun c hc => ?_, h.nd, fun i hi => by rw [hlen]; exact h.lt i hi, fun y hy => ?_, hnew, h.fu⟩
  · obtain ⟨a1, a2, a3, a4⟩ := h.op c hc
    exact ⟨a1, a2, fun i hi => by rw [hlen]; exact a3 i hi, a4⟩
  · obtain ⟨i, hi, e⟩ := List.mem_iff_getElem.1 hy
    have hi2 : i < s.files.length := by rw [← hlen]; exact hi
    have hm := modify_at (g := g) (f := f) hi hi2
    have e2 : y = if i = f then g (s.files.getD f ([], 0)) else s.files[i] := by rw [← e]; exact hm
    by_cases hif : i = f
    · rw [if_pos hif] at e2
      have hb : (g (s.files.getD f ([], 0))).1.length ≤ held (FilS s f g) := by rw [← hff]; exact sum_le hf
      have := h.rm
      rw [e2]
      exact ⟨hg _ (getD_mem hfl), by omega⟩
    · rw [if_neg hif] at e2
      rw [e2]; exact h.fl _ (List.getElem_mem hi2)
theorem look_cnt {s : PS} (h : WF s) {n : Nm} {f : Nat} (hf : look s.dir n = some f) : f ∈ cntd s := (h.dir.nm _ (look_mem hf)).2
theorem WF.app {s : PS} (h : WF s) (n : Nm) (b : List UInt8) : WF (appP s n b).2 := by
  refine h.doP _ _ fun h1 h2 h3 s' hs' hw => ?_
  have hdir : s'.dir = s.dir := by rw [hs']; rfl
  have hheld : held s' = held s := by rw [hs']; rfl
  have hroom : s'.room = s.room := by rw [hs']; rfl
  unfold appE at h2
  split at h2
  · cases h2
  rename_i hlk
  split at h2
  · cases h2
  rename_i hr
  cases hf : look s'.dir n with
  | none => rw [hdir] at hf; exact absurd hf hlk
  | some f =>
    have hm := look_cnt hw hf
    have hle : flen s'.files f ≤ held s' := sum_le hm
    have := hw.fil hm (fun y => (y.1 ++ b, y.2)) (fun y hy => by have := (hw.fl y hy).1; simp; omega) (by
      have : flen s'.files f = (s'.files.getD f ([], 0)).1.length := rfl
      simp only [List.length_append]
      omega)
    exact this
theorem WF.syn {s : PS} (h : WF s) (n : Nm) : WF (synP s n).2 := by
  refine h.doP _ _ fun h1 h2 h3 s' hs' hw => ?_
  have hdir : s'.dir = s.dir := by rw [hs']; rfl
  obtain ⟨f, hf⟩ := miss_some h2
  rw [← hdir] at hf
  have hm := look_cnt hw hf
  have hle : flen s'.files f ≤ held s' := sum_le hm
  have := hw.fil hm (fun y => (y.1, y.1.length)) (fun y hy => Nat.le_refl _) (by
    have : flen s'.files f = (s'.files.getD f ([], 0)).1.length := rfl
    have := hw.hd
    simp only
    omega)
  rw [hf]
  exact this
theorem WF.cut {s : PS} (h : WF s) (n : Nm) (k : Int) : WF (cutP s n k).2 := by
  refine h.doP _ _ fun h1 h2 h3 s' hs' hw => ?_
  have hdir : s'.dir = s.dir := by rw [hs']; rfl
  cases hf : look s'.dir n with
  | none => rw [hdir] at hf; unfold cutE at h2; rw [hf] at h2; cases h2
  | some f =>
    have hm := look_cnt hw hf
    have hle : flen s'.files f ≤ held s' := sum_le hm
    have := hw.fil hm (fun y => (y.1.take k.toNat, min y.2 k.toNat)) (fun y hy => by have := (hw.fl y hy).1; simp only [List.length_take]; omega) (by
      have : flen s'.files f = (s'.files.getD f ([], 0)).1.length := rfl
      have := hw.hd
      simp only [List.length_take]
      omega)
    exact this
theorem perm_sum {l l' : List Nat} (h : l.Perm l') : l.sum = l'.sum := by
  induction h with
  | nil => rfl
  | cons x _ ih => simp [ih]
  | swap x y l => simp; omega
  | trans _ _ ih1 ih2 => exact ih1.trans ih2
/-- Sums over less. -/
theorem sumL_sub {fs gs : List (List UInt8 × Nat)} (hle : ∀ f, flen gs f ≤ flen fs f) : ∀ {l l' : List Nat}, l'.Nodup → (∀ f ∈ l', f ∈ l) → sumL gs l' ≤ sumL fs l
  | l, [], _, _ => by unfold sumL; simp
  | l, a :: r, hn, hs => by
    rw [List.nodup_cons] at hn
    have ha : a ∈ l := hs a (by simp)
    have h1 := sumL_sub hle (l := l.erase a) hn.2 (fun f hf => (List.mem_erase_of_ne (fun e => hn.1 (by rw [← e]; exact hf))).2 (hs f (List.mem_cons_of_mem _ hf)))
    have h2 : sumL fs l = flen fs a + sumL fs (l.erase a) := by
      unfold sumL
      have := (List.perm_cons_erase ha).map (flen fs)
      rw [perm_sum this]; simp
    have h3 := hle a
    have h4 : sumL gs (a :: r) = flen gs a + sumL gs r := by unfold sumL; simp
    omega
theorem WF.dsy {s : PS} (h : WF s) : WF (dsyP s).2 := by
  refine h.doP _ _ fun h1 h2 h3 s' hs' hw => ?_
  have hD := hw.dir
  have hc : cntd { s' with sure := s'.dir, opn := [] } = s'.dir.map Prod.snd := by unfold cntd newOf; simp
  refine ⟨hw.rm, fun k => ?_, fun c hc => absurd hc (by simp), by rw [hc]; exact hD.nd, fun f hf => ?_, hw.fl, ?_, hw.fu⟩
  · have e1 : dirAt s'.dir (List.take k []) = s'.dir := by simp [dirAt]
    show DOk (dirAt s'.dir (List.take k [])) (s'.dir.map Prod.snd ++ newOf (List.take k []))
    rw [e1]
    exact ⟨hD.so, fun z hz => ⟨(hD.nm z hz).1, List.mem_append_left _ (List.mem_map_of_mem (f := Prod.snd) hz)⟩, hD.nd, hD.le⟩
  · rw [hc] at hf
    obtain ⟨z, hz, rfl⟩ := List.mem_map.1 hf
    exact hw.lt _ (hD.nm z hz).2
  · refine Nat.le_trans ?_ hw.hd
    show sumL s'.files (cntd { s' with sure := s'.dir, opn := [] }) ≤ _
    rw [hc]
    exact sumL_sub (fun f => Nat.le_refl _) hD.nd (fun f hf => by
      obtain ⟨z, hz, rfl⟩ := List.mem_map.1 hf
      exact (hD.nm z hz).2)
theorem crF_ok (t : Int) (y : List UInt8 × Nat) (h : y.2 ≤ y.1.length) : (crF t y).2 ≤ (crF t y).1.length ∧ (crF t y).1.length ≤ y.1.length ∧ y.2 ≤ (crF t y).2 := by
  unfold crF
  simp only [List.length_take]
  omega
theorem crA_ok : ∀ (d : Dir) (ts : List Int) (fs : List (List UInt8 × Nat)), (∀ x ∈ fs, x.2 ≤ x.1.length ∧ x.1.length ≤ 1048576) → (∀ x ∈ crA d ts fs, x.2 ≤ x.1.length ∧ x.1.length ≤ 1048576) ∧ ∀ f, flen (crA d ts fs) f ≤ flen fs f
  | [], ts, fs, h => ⟨h, fun f => Nat.le_refl _⟩
  | z :: r, ts, fs, h => by
    simp only [crA]
    have hstep : (∀ x ∈ fs.modify z.2 (crF (ts.headD 0)), x.2 ≤ x.1.length ∧ x.1.length ≤ 1048576) ∧ ∀ f, flen (fs.modify z.2 (crF (ts.headD 0))) f ≤ flen fs f := by
      refine ⟨fun x hx => ?_, fun f => ?_⟩
      · obtain ⟨i, hi, e⟩ := List.mem_iff_getElem.1 hx
        have hi2 : i < fs.length := by simpa using hi
        rw [List.getElem_modify] at e
        have h1 := h _ (List.getElem_mem hi2)
        split at e
        · rw [← e]
          have := crF_ok (ts.headD 0) _ h1.1
          omega
        · rw [← e]; exact h1
      · unfold flen
        simp only [List.getD_eq_getElem?_getD, List.getElem?_modify]
        by_cases hf : f < fs.length
        · rw [List.getElem?_eq_getElem hf]
          have h1 := h _ (List.getElem_mem hf)
          simp only [Option.map_eq_map, Option.map_some, Option.getD_some]
          split
          · exact (crF_ok (ts.headD 0) _ h1.1).2.1
          · exact Nat.le_refl _
        · rw [List.getElem?_eq_none (by omega)]; simp
    obtain ⟨i1, i2⟩ := crA_ok r ts.tail _ hstep.1
    exact ⟨i1, fun f => Nat.le_trans (i2 f) (hstep.2 f)⟩
theorem WF.cra {s : PS} (h : WF s) (k : Int) (ts : List Int) : WF (crP s k ts) := by
  have hD := h.px k.toNat
  have hok := crA_ok (dirAt s.sure (s.opn.take k.toNat)) ts s.files h.fl
  have hc : cntd (crP s k ts) = (dirAt s.sure (s.opn.take k.toNat)).map Prod.snd := by unfold cntd newOf crP; simp
  have hlen : (crP s k ts).files.length = s.files.length := crA_len _ _ _
  refine ⟨h.rm, fun j => ?_, fun c hc => absurd hc (by simp [crP]), by rw [hc]; exact hD.nd, fun f hf => ?_, hok.1, ?_, by simp [crP]⟩
  · have e1 : dirAt (dirAt s.sure (s.opn.take k.toNat)) (List.take j []) = dirAt s.sure (s.opn.take k.toNat) := by simp [dirAt]
    show DOk (dirAt (dirAt s.sure (s.opn.take k.toNat)) (List.take j [])) ((dirAt s.sure (s.opn.take k.toNat)).map Prod.snd ++ newOf (List.take j []))
    rw [e1]
    exact ⟨hD.so, fun z hz => ⟨(hD.nm z hz).1, List.mem_append_left _ (List.mem_map_of_mem (f := Prod.snd) hz)⟩, hD.nd, hD.le⟩
  · rw [hc] at hf
    rw [hlen]
    obtain ⟨z, hz, rfl⟩ := List.mem_map.1 hf
    exact h.lt _ (cnk_sub (hD.nm z hz).2)
  · refine Nat.le_trans ?_ h.hd
    show sumL (crP s k ts).files (cntd (crP s k ts)) ≤ _
    rw [hc]
    exact sumL_sub hok.2 hD.nd (fun f hf => by
      obtain ⟨z, hz, rfl⟩ := List.mem_map.1 hf
      exact cnk_sub (hD.nm z hz).2)
theorem WF.fus {s : PS} (h : WF s) (n : Int) (hn : n ≤ 9223372036854775807) : WF (fusP s n) := h.pow _ _ (by omega)
end Go.Proofs.YtinancnlangkjaaGreatDoor

