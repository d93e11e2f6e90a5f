/- The root: Write.
The disk's state stays right.
The root: Write. -/
import Derived.Test.YtijpokajhjhllaaGreatDoorDskMJ
import Derived.Test.YtijpokajhjhllaaGreatDoorRotA
set_option linter.unusedSimpArgs false
set_option linter.unusedVariables false
namespace Go.Proofs.YtijpokajhjhllaaGreatDoor
open Go Go.RowKit Go.Tum Go.ChangeMaps

def cnk (s : PS) (k : Nat) : List Nat := s.sure.map Prod.snd ++ newOf (s.opn.take k)
/-- A directory may be, its files among l. -/
structure DOk (d : Dir) (l : List Nat) : Prop where
  so : Sorted d
  nm : ∀ z ∈ d, nmOk z.1 = true ∧ z.2 ∈ l
  nd : (d.map Prod.snd).Nodup
  le : d.length ≤ 60
structure WF (s : PS) : Prop where
  rm : s.room ≤ 1048576
  px : ∀ k, DOk (dirAt s.sure (s.opn.take k)) (cnk s k)
  op : ∀ c ∈ s.opn, c.frm.length ≤ 12 ∧ c.to.length ≤ 12 ∧ (∀ f, c.file = some f → f < s.files.length) ∧ (c.frm = [] → c.file.isSome = true)
  nd : (cntd s).Nodup
  lt : ∀ f ∈ cntd s, f < s.files.length
  fl : ∀ x ∈ s.files, x.2 ≤ x.1.length ∧ x.1.length ≤ 1048576
  hd : held s ≤ s.room
  fu : -1 ≤ s.fuse ∧ s.fuse ≤ 9223372036854775807
theorem cnk_sub {s : PS} {k : Nat} {f : Nat} (h : f ∈ cnk s k) : f ∈ cntd s := by
  unfold cnk at h
  unfold cntd
  rcases List.mem_append.1 h with h | h
  · exact List.mem_append_left _ h
  · refine List.mem_append_right _ ?_
    obtain ⟨c, hc, e⟩ := List.mem_filterMap.1 h
    exact List.mem_filterMap.2 ⟨c, List.mem_of_mem_take hc, e⟩
theorem cnk_all (s : PS) : cnk s s.opn.length = cntd s := by unfold cnk cntd; rw [List.take_length]
theorem WF.gd {s : PS} (h : WF s) : Gd s :=
  ⟨h.rm, fun k => (h.px k).so, fun k z hz => ⟨((h.px k).nm z hz).1, h.lt _ (cnk_sub ((h.px k).nm z hz).2)⟩, h.op, h.fl, h.hd, fun k => (h.px k).le, h.fu⟩
theorem WF.dir {s : PS} (h : WF s) : DOk s.dir (cntd s) := by
  have := h.px s.opn.length
  rw [List.take_length, cnk_all] at this
  exact this
theorem wf_new {room : Nat} (h : room ≤ 1048576) : WF (newP room) := by
  refine ⟨h, fun k => ⟨?_, ?_, ?_, ?_⟩, ?_, ?_, ?_, ?_, ?_, by simp [newP]⟩
  · simp [newP, dirAt]
  · intro z hz; simp [newP, dirAt] at hz
  · simp [newP, dirAt]
  · simp [newP, dirAt]
  · intro c hc; simp [newP] at hc
  · simp [newP, cntd, newOf]
  · intro f hf; simp [newP, cntd, newOf] at hf
  · intro y hy; simp [newP] at hy
  · simp [newP, held, cntd, newOf, sumL]
/-- Fuse and power. -/
theorem WF.pow {s : PS} (h : WF s) (fu : Int) (dn : Bool) (hf : -1 ≤ fu ∧ fu ≤ 9223372036854775807) : WF { s with fuse := fu, down := dn } := ⟨h.rm, h.px, h.op, h.nd, h.lt, h.fl, h.hd, hf⟩
theorem sumL_zero {fs : List (List UInt8 × Nat)} {l : List Nat} (h : ∀ f ∈ l, flen fs f = 0) : sumL fs l = 0 := by
  unfold sumL
  induction l with
  | nil => rfl
  | cons a r ih =>
    rw [List.map_cons, List.sum_cons, h a (by simp), ih fun f hf => h f (List.mem_cons_of_mem _ hf)]
/-- A change more. -/
theorem WF.alt {s : PS} (h : WF s) (fs : List (List UInt8 × Nat)) (c : Chg) (hfs : s.files.length ≤ fs.length) (hsame : ∀ f, f < s.files.length → flen fs f = flen s.files f) (hfl : ∀ x ∈ fs, x.2 ≤ x.1.length ∧ x.1.length ≤ 1048576)
    (hc : c.frm.length ≤ 12 ∧ c.to.length ≤ 12 ∧ (∀ f, c.file = some f → f < fs.length) ∧ (c.frm = [] → c.file.isSome = true))
    (hn : ∀ f, c.frm = [] → c.file = some f → f ∉ cntd s ∧ flen fs f = 0) (hd : DOk (appC s.dir c) (cntd s ++ newOf [c])) : WF { s with files := fs, opn := s.opn ++ [c] } := by
  have hcn : cntd { s with files := fs, opn := s.opn ++ [c] } = cntd s ++ newOf [c] := by
    unfold cntd
    simp only [newOf_append, List.append_assoc]
  have hone : ∀ f ∈ newOf [c], c.frm = [] ∧ c.file = some f := by
    intro f hf
    obtain ⟨c', hc', e1, e2⟩ := newOf_mem hf
    simp at hc'; subst hc'
    exact ⟨e2, e1⟩
  refine ⟨h.rm, fun k => ?_, fun c' hc' => ?_, ?_, fun f hf => ?_, hfl, ?_, h.fu⟩
  · show DOk (dirAt s.sure ((s.opn ++ [c]).take k)) (s.sure.map Prod.snd ++ newOf ((s.opn ++ [c]).take k))
    by_cases hk : k ≤ s.opn.length
    · rw [List.take_append_of_le_length hk]
      exact h.px k
    · rw [List.take_of_length_le (by simp; omega)]
      have e1 : dirAt s.sure (s.opn ++ [c]) = appC s.dir c := by unfold PS.dir dirAt; simp only [List.foldl_append, List.foldl_cons, List.foldl_nil]
      rw [e1, newOf_append, ← List.append_assoc]
      exact hd
  · rcases List.mem_append.1 hc' with h1 | h1
    · obtain ⟨a1, a2, a3, a4⟩ := h.op c' h1
      exact ⟨a1, a2, fun f hf => Nat.lt_of_lt_of_le (a3 f hf) hfs, a4⟩
    · simp at h1; subst h1; exact hc
  · rw [hcn, List.nodup_append]
    refine ⟨h.nd, ?_, fun a ha b hb e => ?_⟩
    · unfold newOf
      simp only [List.filterMap_cons, List.filterMap_nil]
      split <;> simp
    · obtain ⟨e1, e2⟩ := hone b hb
      rw [← e] at e2
      exact (hn a e1 e2).1 ha
  · rw [hcn] at hf
    rcases List.mem_append.1 hf with h1 | h1
    · exact Nat.lt_of_lt_of_le (h.lt f h1) hfs
    · exact hc.2.2.1 f (hone f h1).2
  · show sumL fs (cntd { s with files := fs, opn := s.opn ++ [c] }) ≤ s.room
    rw [hcn, sumL_append]
    have e1 : sumL fs (cntd s) = held s := sumL_congr fun f hf => hsame f (h.lt f hf)
    have e2 : sumL fs (newOf [c]) = 0 := sumL_zero fun f hf => by
      obtain ⟨e1, e2⟩ := hone f hf
      exact (hn f e1 e2).2
    have := h.hd
    omega
theorem noN_nil {d : Dir} {l : List Nat} (h : DOk d l) : noN d [] = d := noN_same (look_none.2 fun hm => by
  obtain ⟨z, hz, e⟩ := List.mem_map.1 hm
  have := nmOk_len (h.nm z hz).1
  rw [e] at this; simp at this)
theorem DOk.noN {d : Dir} {l : List Nat} (h : DOk d l) (n : Nm) : DOk (noN d n) l :=
  ⟨noN_sorted h.so n, fun z hz => h.nm z (noN_mem.1 hz).1, (List.filter_sublist.map Prod.snd).nodup h.nd, Nat.le_trans (List.length_filter_le _ _) h.le⟩
theorem DOk.inN {d : Dir} {l : List Nat} (h : DOk d l) {n : Nm} {f : Nat} (hn : look d n = none) (ho : nmOk n = true) (hf : f ∈ l) (hnf : f ∉ d.map Prod.snd) (hl : d.length < 60) : DOk (inN d n f) l := by
  refine ⟨inN_sorted h.so hn, fun z hz => ?_, ?_, by rw [inN_len]; omega⟩
  · rcases inN_mem.1 hz with rfl | hz
    · exact ⟨ho, hf⟩
    · exact h.nm z hz
  · rw [((inN_perm d n f).map Prod.snd).nodup_iff, List.map_cons, List.nodup_cons]
    exact ⟨hnf, h.nd⟩
theorem DOk.mono {d : Dir} {l l' : List Nat} (h : DOk d l) (hs : ∀ f ∈ l, f ∈ l') : DOk d l' := ⟨h.so, fun z hz => ⟨(h.nm z hz).1, hs _ (h.nm z hz).2⟩, h.nd, h.le⟩
theorem WF.doP {s : PS} (h : WF s) (e : Nat) (act : PS → PS) (ha : s.down = false → e = 0 → s.fuse ≠ 0 → ∀ s', s' = fusS s → WF s' → WF (act s')) : WF (doP s e act).2 := by
  unfold Go.Proofs.YtijpokajhjhllaaGreatDoor.doP
  split
  · exact h
  · rename_i hd
    split
    · exact h
    · rename_i he
      split
      · exact h.pow _ _ h.fu
      · rename_i hf
        refine ha (by simpa using hd) (by simpa using he) hf (fusS s) rfl (h.pow _ _ ?_)
        have := h.fu
        split <;> omega
theorem WF.cre {s : PS} (h : WF s) (n : Nm) : WF (creP s n).2 := by
  refine h.doP _ _ fun h1 h2 h3 s' hs' hw => ?_
  have hdir : s'.dir = s.dir := by rw [hs']; rfl
  unfold creE at h2
  split at h2
  · cases h2
  rename_i hok
  split at h2
  · cases h2
  rename_i hlk
  split at h2
  · cases h2
  rename_i hl
  have hok' : nmOk n = true := by simpa using hok
  have hlk' : look s'.dir n = none := by rw [hdir]; cases hq : look s.dir n with
    | none => rfl
    | some f => rw [hq] at hlk; simp at hlk
  have hnl := nmOk_len hok'
  refine WF.alt hw _ _ (by simp) (fun f hf => flen_app hf) (fun x hx => ?_) ⟨by simp, hnl.2, fun f hf => ?_, fun _ => rfl⟩ (fun f _ hf => ?_) ?_
  · rcases List.mem_append.1 hx with hx | hx
    · exact hw.fl x hx
    · simp at hx; subst hx; simp
  · cases hf; simp
  · cases hf
    refine ⟨fun hm => Nat.lt_irrefl _ (hw.lt _ hm), ?_⟩
    unfold flen
    simp [List.getD_eq_getElem?_getD]
  · have hD := hw.dir
    show DOk (inN (noN (noN s'.dir []) n) n s'.files.length) _
    rw [noN_nil hD, noN_same hlk']
    refine (hD.mono fun f hf => List.mem_append_left _ hf).inN hlk' hok' ?_ ?_ (by rw [hdir]; omega)
    · refine List.mem_append_right _ ?_
      simp [newOf]
    · intro hm
      obtain ⟨z, hz, e⟩ := List.mem_map.1 hm
      have := hw.lt _ (hD.nm z hz).2
      omega
theorem WF.del {s : PS} (h : WF s) (n : Nm) : WF (delP s n).2 := by
  refine h.doP _ _ fun h1 h2 h3 s' hs' hw => ?_
  have hdir : s'.dir = s.dir := by rw [hs']; rfl
  obtain ⟨f, hf⟩ := miss_some h2
  rw [← hdir] at hf
  have hD := hw.dir
  have hnl := nmOk_len (hD.nm _ (look_mem hf)).1
  simp only at hnl
  have hnn : n ≠ [] := fun e => by rw [e] at hnl; simp at hnl
  have := WF.alt hw s'.files ⟨n, [], none⟩ (Nat.le_refl _) (fun f _ => rfl) hw.fl ⟨hnl.2, by simp, fun f hf => (by cases hf), fun e => absurd e hnn⟩ (fun f e => absurd e hnn) (by
    have e1 : newOf [(⟨n, [], none⟩ : Chg)] = [] := by simp [newOf, hnn]
    rw [e1, List.append_nil]
    exact hD.noN n)
  exact this
theorem WF.ren {s : PS} (h : WF s) (n m : Nm) : WF (renP s n m).2 := by
  refine h.doP _ _ fun h1 h2 h3 s' hs' hw => ?_
  have hdir : s'.dir = s.dir := by rw [hs']; rfl
  unfold renE at h2
  split at h2
  · cases h2
  rename_i hlk
  split at h2
  · cases h2
  rename_i hok
  have hok' : nmOk m = true := by simpa using hok
  obtain ⟨f, hf⟩ : ∃ f, look s'.dir n = some f := by
    rw [hdir]
    cases hq : look s.dir n with
    | none => exact absurd hq hlk
    | some f => exact ⟨f, rfl⟩
  have hD := hw.dir
  have hmem := look_mem hf
  have hnl := nmOk_len (hD.nm _ hmem).1
  simp only at hnl
  have hml := nmOk_len hok'
  have hnn : n ≠ [] := fun e => by rw [e] at hnl; simp at hnl
  have hfile : f ∈ cntd s' := (hD.nm _ hmem).2
  have hlen := noN_len hD.so (n := n) (by rw [hf]; rfl)
  have := WF.alt hw s'.files ⟨n, m, some f⟩ (Nat.le_refl _) (fun f _ => rfl) hw.fl ⟨hnl.2, hml.2, fun g hg => by cases hg; exact hw.lt f hfile, fun e => absurd e hnn⟩ (fun f e => absurd e hnn) (by
    have e1 : newOf [(⟨n, m, some f⟩ : Chg)] = [] := by simp [newOf, hnn]
    rw [e1, List.append_nil]
    show DOk (inN (noN (noN s'.dir n) m) m f) _
    refine ((hD.noN n).noN m).inN (by rw [look_noN, if_pos rfl]) hok' hfile (fun hm => ?_) ?_
    · obtain ⟨z, hz, e⟩ := List.mem_map.1 hm
      obtain ⟨hz2, hzm⟩ := noN_mem.1 hz
      obtain ⟨hz3, hzn⟩ := noN_mem.1 hz2
      have hp := (List.nodup_iff_pairwise_ne.1 hD.nd)
      have : z = (n, f) := by
        obtain ⟨i, hi, e1⟩ := List.mem_iff_getElem.1 hz3
        obtain ⟨j, hj, e2⟩ := List.mem_iff_getElem.1 hmem
        have e3 : (s'.dir.map Prod.snd)[i]'(by simpa using hi) = (s'.dir.map Prod.snd)[j]'(by simpa using hj) := by simp [e1, e2, e]
        have := (List.getElem_inj hD.nd).1 e3
        subst this
        rw [← e1, ← e2]
      exact hzn (by rw [this])
    · have := hD.le
      have := List.length_filter_le (fun p : Nm × Nat => p.1 != m) (noN s'.dir n)
      unfold Go.Proofs.YtijpokajhjhllaaGreatDoor.noN at *
      omega)
  rw [hf]
  exact this
/-- A file's bytes turn. -/
theorem WF.fil {s : PS} (h : WF s) {f : Nat} (hf : f ∈ cntd s) (g : List UInt8 × Nat → List UInt8 × Nat) (hg : ∀ y ∈ s.files, (g y).2 ≤ (g y).1.length) (hl : held s - flen s.files f + (g (s.files.getD f ([], 0))).1.length ≤ s.room) : WF (FilS s f g) := by
  have hfl := h.lt f hf
  have hlen : (FilS s f g).files.length = s.files.length := by simp [FilS]
  have hfo : ∀ i, i ≠ f → flen (FilS s f g).files i = flen s.files i := fun i hi => by
    unfold flen FilS
    simp only [List.getD_eq_getElem?_getD, List.getElem?_modify]
    cases s.files[i]? <;> simp [Ne.symm hi]
  have hff : flen (FilS s f g).files f = (g (s.files.getD f ([], 0))).1.length := by
    unfold flen FilS
    simp only [List.getD_eq_getElem?_getD, List.getElem?_modify, if_true]
    rw [List.getElem?_eq_getElem hfl]
    simp
  have hsum : ∀ l : List Nat, l.Nodup → (f ∉ l → sumL (FilS s f g).files l = sumL s.files l) ∧ (f ∈ l → sumL (FilS s f g).files l + flen s.files f = sumL s.files l + (g (s.files.getD f ([], 0))).1.length) := by
    intro l
    induction l with
    | nil => intro _; exact ⟨fun _ => rfl, fun h => absurd h (by simp)⟩
    | cons a r ih =>
      intro hn
      rw [List.nodup_cons] at hn
      obtain ⟨i1, i2⟩ := ih hn.2
      unfold sumL at i1 i2 ⊢
      simp only [List.map_cons, List.sum_cons]
      by_cases e : a = f
      · subst e
        refine ⟨fun h => absurd (by simp) h, fun _ => ?_⟩
        rw [i1 hn.1, hff]
        omega
      · rw [hfo a e]
        refine ⟨fun h => ?_, fun h => ?_⟩
        · rw [i1 (fun hm => h (List.mem_cons_of_mem _ hm))]
        · have := i2 (by rcases List.mem_cons.1 h with h | h; exact absurd h.symm e; exact h)
          omega
  have hheld : held (FilS s f g) + flen s.files f = held s + (g (s.files.getD f ([], 0))).1.length := (hsum (cntd s) h.nd).2 hf
  have hle : flen s.files f ≤ held s := sum_le hf
  have hnew : held (FilS s f g) ≤ s.room := by omega
  refine ⟨h.rm, h.px, fun c hc => ?_, h.nd, fun i hi => by rw [hlen]; exact h.lt i hi, fun y hy => ?_, hnew, h.fu⟩
  · obtain ⟨a1, a2, a3, a4⟩ := h.op c hc
    exact ⟨a1, a2, fun i hi => by rw [hlen]; exact a3 i hi, a4⟩
  · obtain ⟨i, hi, e⟩ := List.mem_iff_getElem.1 hy
    have hi2 : i < s.files.length := by rw [← hlen]; exact hi
    have hm := modify_at (g := g) (f := f) hi hi2
    have e2 : y = if i = f then g (s.files.getD f ([], 0)) else s.files[i] := by rw [← e]; exact hm
    by_cases hif : i = f
    · rw [if_pos hif] at e2
      have hb : (g (s.files.getD f ([], 0))).1.length ≤ held (FilS s f g) := by rw [← hff]; exact sum_le hf
      have := h.rm
      rw [e2]
      exact ⟨hg _ (getD_mem hfl), by omega⟩
    · rw [if_neg hif] at e2
      rw [e2]; exact h.fl _ (List.getElem_mem hi2)
theorem look_cnt {s : PS} (h : WF s) {n : Nm} {f : Nat} (hf : look s.dir n = some f) : f ∈ cntd s := (h.dir.nm _ (look_mem hf)).2
theorem WF.app {s : PS} (h : WF s) (n : Nm) (b : List UInt8) : WF (appP s n b).2 := by
  refine h.doP _ _ fun h1 h2 h3 s' hs' hw => ?_
  have hdir : s'.dir = s.dir := by rw [hs']; rfl
  have hheld : held s' = held s := by rw [hs']; rfl
  have hroom : s'.room = s.room := by rw [hs']; rfl
  unfold appE at h2
  split at h2
  · cases h2
  rename_i hlk
  split at h2
  · cases h2
  rename_i hr
  cases hf : look s'.dir n with
  | none => rw [hdir] at hf; exact absurd hf hlk
  | some f =>
    have hm := look_cnt hw hf
    have hle : flen s'.files f ≤ held s' := sum_le hm
    have := hw.fil hm (fun y => (y.1 ++ b, y.2)) (fun y hy => by have := (hw.fl y hy).1; simp; omega) (by
      have : flen s'.files f = (s'.files.getD f ([], 0)).1.length := rfl
      simp only [List.length_append]
      omega)
    exact this
theorem WF.syn {s : PS} (h : WF s) (n : Nm) : WF (synP s n).2 := by
  refine h.doP _ _ fun h1 h2 h3 s' hs' hw => ?_
  have hdir : s'.dir = s.dir := by rw [hs']; rfl
  obtain ⟨f, hf⟩ := miss_some h2
  rw [← hdir] at hf
  have hm := look_cnt hw hf
  have hle : flen s'.files f ≤ held s' := sum_le hm
  have := hw.fil hm (fun y => (y.1, y.1.length)) (fun y hy => Nat.le_refl _) (by
    have : flen s'.files f = (s'.files.getD f ([], 0)).1.length := rfl
    have := hw.hd
    simp only
    omega)
  rw [hf]
  exact this
theorem WF.cut {s : PS} (h : WF s) (n : Nm) (k : Int) : WF (cutP s n k).2 := by
  refine h.doP _ _ fun h1 h2 h3 s' hs' hw => ?_
  have hdir : s'.dir = s.dir := by rw [hs']; rfl
  cases hf : look s'.dir n with
  | none => rw [hdir] at hf; unfold cutE at h2; rw [hf] at h2; cases h2
  | some f =>
    have hm := look_cnt hw hf
    have hle : flen s'.files f ≤ held s' := sum_le hm
    have := hw.fil hm (fun y => (y.1.take k.toNat, min y.2 k.toNat)) (fun y hy => by have := (hw.fl y hy).1; simp only [List.length_take]; omega) (by
      have : flen s'.files f = (s'.files.getD f ([], 0)).1.length := rfl
      have := hw.hd
      simp only [List.length_take]
      omega)
    exact this
theorem perm_sum {l l' : List Nat} (h : l.Perm l') : l.sum = l'.sum := by
  induction h with
  | nil => rfl
  | cons x _ ih => simp [ih]
  | swap x y l => simp; omega
  | trans _ _ ih1 ih2 => exact ih1.trans ih2
/-- Sums over less. -/
theorem sumL_sub {fs gs : List (List UInt8 × Nat)} (hle : ∀ f, flen gs f ≤ flen fs f) : ∀ {l l' : List Nat}, l'.Nodup → (∀ f ∈ l', f ∈ l) → sumL gs l' ≤ sumL fs l
  | l, [], _, _ => by unfold sumL; simp
  | l, a :: r, hn, hs => by
    rw [List.nodup_cons] at hn
    have ha : a ∈ l := hs a (by simp)
    have h1 := sumL_sub hle (l := l.erase a) hn.2 (fun f hf => (List.mem_erase_of_ne (fun e => hn.1 (by rw [← e]; exact hf))).2 (hs f (List.mem_cons_of_mem _ hf)))
    have h2 : sumL fs l = flen fs a + sumL fs (l.erase a) := by
      unfold sumL
      have := (List.perm_cons_erase ha).map (flen fs)
      rw [perm_sum this]; simp
    have h3 := hle a
    have h4 : sumL gs (a :: r) = flen gs a + sumL gs r := by unfold sumL; simp
    omega
theorem WF.dsy {s : PS} (h : WF s) : WF (dsyP s).2 := by
  refine h.doP _ _ fun h1 h2 h3 s' hs' hw => ?_
  have hD := hw.dir
  have hc : cntd { s' with sure := s'.dir, opn := [] } = s'.dir.map Prod.snd := by unfold cntd newOf; simp
  refine ⟨hw.rm, fun k => ?_, fun c hc => absurd hc (by simp), by rw [hc]; exact hD.nd, fun f hf => ?_, hw.fl, ?_, hw.fu⟩
  · have e1 : dirAt s'.dir (List.take k []) = s'.dir := by simp [dirAt]
    show DOk (dirAt s'.dir (List.take k [])) (s'.dir.map Prod.snd ++ newOf (List.take k []))
    rw [e1]
    exact ⟨hD.so, fun z hz => ⟨(hD.nm z hz).1, List.mem_append_left _ (List.mem_map_of_mem (f := Prod.snd) hz)⟩, hD.nd, hD.le⟩
  · rw [hc] at hf
    obtain ⟨z, hz, rfl⟩ := List.mem_map.1 hf
    exact hw.lt _ (hD.nm z hz).2
  · refine Nat.le_trans ?_ hw.hd
    show sumL s'.files (cntd { s' with sure := s'.dir, opn := [] }) ≤ _
    rw [hc]
    exact sumL_sub (fun f => Nat.le_refl _) hD.nd (fun f hf => by
      obtain ⟨z, hz, rfl⟩ := List.mem_map.1 hf
      exact (hD.nm z hz).2)
theorem crF_ok (t : Int) (y : List UInt8 × Nat) (h : y.2 ≤ y.1.length) : (crF t y).2 ≤ (crF t y).1.length ∧ (crF t y).1.length ≤ y.1.length ∧ y.2 ≤ (crF t y).2 := by
  unfold crF
  simp only [List.length_take]
  omega
theorem crA_ok : ∀ (d : Dir) (ts : List Int) (fs : List (List UInt8 × Nat)), (∀ x ∈ fs, x.2 ≤ x.1.length ∧ x.1.length ≤ 1048576) → (∀ x ∈ crA d ts fs, x.2 ≤ x.1.length ∧ x.1.length ≤ 1048576) ∧ ∀ f, flen (crA d ts fs) f ≤ flen fs f
  | [], ts, fs, h => ⟨h, fun f => Nat.le_refl _⟩
  | z :: r, ts, fs, h => by
    simp only [crA]
    have hstep : (∀ x ∈ fs.modify z.2 (crF (ts.headD 0)), x.2 ≤ x.1.length ∧ x.1.length ≤ 1048576) ∧ ∀ f, flen (fs.modify z.2 (crF (ts.headD 0))) f ≤ flen fs f := by
      refine ⟨fun x hx => ?_, fun f => ?_⟩
      · obtain ⟨i, hi, e⟩ := List.mem_iff_getElem.1 hx
        have hi2 : i < fs.length := by simpa using hi
        rw [List.getElem_modify] at e
        have h1 := h _ (List.getElem_mem hi2)
        split at e
        · rw [← e]
          have := crF_ok (ts.headD 0) _ h1.1
          omega
        · rw [← e]; exact h1
      · unfold flen
        simp only [List.getD_eq_getElem?_getD, List.getElem?_modify]
        by_cases hf : f < fs.length
        · rw [List.getElem?_eq_getElem hf]
          have h1 := h _ (List.getElem_mem hf)
          simp only [Option.map_eq_map, Option.map_some, Option.getD_some]
          split
          · exact (crF_ok (ts.headD 0) _ h1.1).2.1
          · exact Nat.le_refl _
        · rw [List.getElem?_eq_none (by omega)]; simp
    obtain ⟨i1, i2⟩ := crA_ok r ts.tail _ hstep.1
    exact ⟨i1, fun f => Nat.le_trans (i2 f) (hstep.2 f)⟩
theorem WF.cra {s : PS} (h : WF s) (k : Int) (ts : List Int) : WF (crP s k ts) := by
  have hD := h.px k.toNat
  have hok := crA_ok (dirAt s.sure (s.opn.take k.toNat)) ts s.files h.fl
  have hc : cntd (crP s k ts) = (dirAt s.sure (s.opn.take k.toNat)).map Prod.snd := by unfold cntd newOf crP; simp
  have hlen : (crP s k ts).files.length = s.files.length := crA_len _ _ _
  refine ⟨h.rm, fun j => ?_, fun c hc => absurd hc (by simp [crP]), by rw [hc]; exact hD.nd, fun f hf => ?_, hok.1, ?_, by simp [crP]⟩
  · have e1 : dirAt (dirAt s.sure (s.opn.take k.toNat)) (List.take j []) = dirAt s.sure (s.opn.take k.toNat) := by simp [dirAt]
    show DOk (dirAt (dirAt s.sure (s.opn.take k.toNat)) (List.take j [])) ((dirAt s.sure (s.opn.take k.toNat)).map Prod.snd ++ newOf (List.take j []))
    rw [e1]
    exact ⟨hD.so, fun z hz => ⟨(hD.nm z hz).1, List.mem_append_left _ (List.mem_map_of_mem (f := Prod.snd) hz)⟩, hD.nd, hD.le⟩
  · rw [hc] at hf
    rw [hlen]
    obtain ⟨z, hz, rfl⟩ := List.mem_map.1 hf
    exact h.lt _ (cnk_sub (hD.nm z hz).2)
  · refine Nat.le_trans ?_ h.hd
    show sumL (crP s k ts).files (cntd (crP s k ts)) ≤ _
    rw [hc]
    exact sumL_sub hok.2 hD.nd (fun f hf => by
      obtain ⟨z, hz, rfl⟩ := List.mem_map.1 hf
      exact cnk_sub (hD.nm z hz).2)
theorem WF.fus {s : PS} (h : WF s) (n : Int) (hn : n ≤ 9223372036854775807) : WF (fusP s n) := h.pow _ _ (by omega)
end Go.Proofs.YtijpokajhjhllaaGreatDoor

set_option linter.unusedSimpArgs false
set_option linter.unusedVariables false
set_option maxRecDepth 100000
namespace Go.Proofs.YtijpokajhjhllaaGreatDoor
open Go Go.RowKit Go.Tum Go.ChangeMaps Go.Tum.Crc

theorem Dk.lt16 {B : Nat} {w : World} {p : Nat} {x : DX} {s : PS} (h : Dk B w p x s) : ∀ q ∈ x.blk p, q < w.heap.size := by
  intro q hq
  have hb : ∀ {b e n s : Nat} {v : Value} {xs : List Value}, w.ownsRow b e s v n xs → ∀ q ∈ oB v, q < w.heap.size := by
    intro b e n s v xs ho q hq
    rcases ho.2 with ⟨hv, -⟩ | ⟨g, cap, cur, hv, hb, hg, -⟩
    · rw [hv] at hq; simp [oB, Value.ownBlock] at hq
    · rw [hv] at hq; simp [oB, Value.ownBlock] at hq; subst hq; exact (Array.getElem?_eq_some_iff.1 hg).1
  unfold DX.blk at hq
  simp only [List.mem_cons, List.mem_append, List.mem_flatMap, List.mem_map] at hq
  rcases hq with rfl | rfl | rfl | (hq | ⟨z, hz, rfl⟩) | ⟨z, hz, hq⟩
  · exact (Array.getElem?_eq_some_iff.1 h.hd).1
  · obtain ⟨es, ck, hb⟩ := h.dr.block; exact (Array.getElem?_eq_some_iff.1 hb).1
  · obtain ⟨es, ck, hb⟩ := h.sr.block; exact (Array.getElem?_eq_some_iff.1 hb).1
  · exact hb h.op q hq
  · obtain ⟨i, hi, rfl⟩ := List.mem_iff_getElem.1 hz
    have := (Array.getElem?_eq_some_iff.1 (h.fi i (by rw [← h.fn]; exact hi)).1).1
    simpa [DX.bk, List.getD_eq_getElem?_getD, hi] using this
  · obtain ⟨i, hi, rfl⟩ := List.mem_iff_getElem.1 hz
    have h2 := (h.fi i (by rw [← h.fn]; exact hi)).2
    have e : x.sv i = x.bl[i].2 := by simp [DX.sv, List.getD_eq_getElem?_getD, hi]
    rw [e] at h2
    exact hb h2 q hq
theorem fr_add16 {S T : List Nat} {a b c : World} (h : Fr S a b) (k : Fr T b c) (hT : ∀ x ∈ T, x ∈ S ∨ a.heap.size ≤ x) : Fr S a c :=
  ((h.mono (T := S ++ T) (by intro x hx; simp [hx])).trans (k.mono (by intro x hx; simp [hx]))).wider (fun x hx => by
    rcases List.mem_append.1 hx with e | e
    · exact .inl e
    · exact hT x e)
theorem fr_at16 {w w' : World} {S : List Nat} (f : Fr S w w') {b : Nat} {o : Obj} (h : w.heap[b]? = some o) (hs : b ∉ S) : w'.heap[b]? = some o := (f.block b (Array.getElem?_eq_some_iff.1 h).1 hs).trans h
/-- One step behind another. -/
theorem stp_comp {B : Nat} {w w1 w2 : World} {p : Nat} {x x1 : DX} {s2 : PS} (f1 : Fr (x.blk p) w w1) (b1 : Below B w w1) (q1 : ∀ q ∈ x1.blk p, q ∈ x.blk p ∨ w.heap.size ≤ q) (h2 : Stp B w1 p x1 s2 w2) : Stp B w p x s2 w2 := by
  obtain ⟨x2, d2, f2, b2, q2⟩ := h2
  exact ⟨x2, d2, fr_add16 f1 f2 q1, b1.trans b2, fun y hy => (q2 y hy).elim (q1 y) (fun h => .inr (Nat.le_trans f1.size h))⟩
theorem doP_opn {s : PS} {e : Nat} {act : PS → PS} (ha : ∀ t, (act t).opn.length ≤ t.opn.length + 1) : (doP s e act).2.opn.length ≤ s.opn.length + 1 := by
  unfold doP
  repeat' split
  all_goals first | exact Nat.le_succ _ | exact ha _
theorem delP_opn (s : PS) (n : Nm) : (delP s n).2.opn.length ≤ s.opn.length + 1 := doP_opn fun t => by simp
theorem delT_opn (s : PS) (n : Nm) : (delT n s).2.opn.length ≤ s.opn.length + 1 := by
  unfold delT
  split <;> exact delP_opn s n
theorem creP_opn (s : PS) (n : Nm) : (creP s n).2.opn.length ≤ s.opn.length + 1 := doP_opn fun t => by simp
theorem appP_opn (s : PS) (n : Nm) (b : List UInt8) : (appP s n b).2.opn.length ≤ s.opn.length + 1 := doP_opn fun t => by simp
theorem synP_opn (s : PS) (n : Nm) : (synP s n).2.opn.length ≤ s.opn.length + 1 := doP_opn fun t => by simp
theorem renP_opn (s : PS) (n m : Nm) : (renP s n m).2.opn.length ≤ s.opn.length + 1 := doP_opn fun t => by simp
theorem dsyP_opn (s : PS) : (dsyP s).2.opn.length ≤ s.opn.length + 1 := doP_opn fun t => by simp
theorem WF.delT {s : PS} (h : WF s) (n : Nm) : WF (delT n s).2 := by
  unfold Go.Proofs.YtijpokajhjhllaaGreatDoor.delT
  split <;> exact h.del n
theorem nl : nFresh.length ≤ maxLen ∧ nRoot.length ≤ maxLen := by unfold nFresh nRoot; simp [maxLen]
section
variable {B : Nat} {w : World} {p : Nat} {x : DX} {s : PS}
theorem delT_any (h : Dk B w p x s) (hB : B ≤ w.heap.size) (hw : WF s) (hl : s.opn.length ≤ 100000) :
    Calls Tryz.prog 36 #[pv p, vN nFresh] w fun e w' => DoR B w p x (delT nFresh s) e w' := by
  have HC := hid (ddelete_any nFresh nl.1 hl h hB (hw.del nFresh).gd)
  clear h hB hw hl
  obtain ⟨R, hR⟩ : ∃ R, delP s nFresh = R := ⟨_, rfl⟩
  have HR := hid hR
  rw [hR] at HC
  obtain ⟨c, s2⟩ := R
  clear hR
  by_cases h5 : c = 5
  · subst h5
    have HQ : Hid (delT nFresh s = (0, s2)) := hid (by unfold delT; rw [HR.out]; rfl)
    go_enter Tryz.func36, Tryz.ntmps36
    go_wp2_with fail
    refine HC.out.mono ?_
    rintro e w1 ⟨rfl, hs⟩
    have HS := hid hs
    clear hs
    go_wp2
    go_ret
    unfold DoR
    rw [HQ.out]
    exact ⟨rfl, HS.out⟩
  · have hc : ((c : Int) == 5) = false := by rw [beq_eq_false_iff_ne]; omega
    have HQ : Hid (delT nFresh s = (c, s2)) := hid (by unfold delT; rw [HR.out]; rw [if_neg h5])
    clear h5
    go_enter Tryz.func36, Tryz.ntmps36
    go_wp2_with fail
    refine HC.out.mono ?_
    rintro e w1 ⟨rfl, hs⟩
    have HS := hid hs
    clear hs
    go_wp2
    go_ret
    unfold DoR
    rw [HQ.out]
    exact ⟨rfl, HS.out⟩
abbrev bxP (p : Nat) : Obj := .cells #[pv p] 24 (0, 0)
abbrev bxB (v : Value) : Obj := .cells #[v] 37 (0, 0)
theorem cl1_any (bd : Nat) (hb : w.heap[bd]? = some (bxP p)) (h : Dk B w p x s) (hB : B ≤ w.heap.size) (hw : WF s) (hl : s.opn.length ≤ 100000) :
    Calls Tryz.prog 35 #[pv bd] w fun e w' => DoR B w p x (delT nFresh s) e w' := by
  have HC := hid (delT_any h hB hw hl)
  obtain ⟨c0, -⟩ := lk1 hb
  skip
  clear h hB hw hl
  go_enter Tryz.func35, Tryz.ntmps35
  go_wp2_with fail
  refine HC.out.mono ?_
  rintro e w1 ⟨rfl, hs⟩
  have HS := hid hs
  clear hs
  go_wp2
  go_ret
  exact ⟨rfl, HS.out⟩
theorem cl2_any (bd : Nat) (hb : w.heap[bd]? = some (bxP p)) (h : Dk B w p x s) (hB : B ≤ w.heap.size) (hw : WF s) (hl : s.opn.length ≤ 100000) :
    Calls Tryz.prog 37 #[pv bd] w fun e w' => DoR B w p x (creP s nFresh) e w' := by
  have HC := hid (dcreate_any nFresh nl.1 h hB (hw.cre nFresh).gd hl)
  obtain ⟨c0, -⟩ := lk1 hb
  skip
  clear h hB hw hl
  go_enter Tryz.func37, Tryz.ntmps37
  go_wp2_with fail
  refine HC.out.mono ?_
  rintro e w1 ⟨rfl, hs⟩
  have HS := hid hs
  clear hs
  go_wp2
  go_ret
  exact ⟨rfl, HS.out⟩
theorem cl3_any (bd : Nat) (hb : w.heap[bd]? = some (bxP p)) (bb : Nat) (v : Value) (b : List UInt8) (hbb : w.heap[bb]? = some (bxB v)) (hv : Byt w v b) (hbl : b.length ≤ 1048576) (h : Dk B w p x s) (hB : B ≤ w.heap.size) (hw : WF s) (hl : s.opn.length ≤ 100000) :
    Calls Tryz.prog 38 #[pv bd, pv bb] w fun e w' => DoR B w p x (appP s nFresh b) e w' := by
  have HC := hid (dappend_any nFresh b v nl.1 hv hbl h hB (hw.app nFresh b).gd)
  obtain ⟨c0, -⟩ := lk1 hb
  obtain ⟨c1, -⟩ := lk1 hbb
  clear h hB hw hl
  go_enter Tryz.func38, Tryz.ntmps38
  go_wp2_with fail
  refine HC.out.mono ?_
  rintro e w1 ⟨rfl, hs⟩
  have HS := hid hs
  clear hs
  go_wp2
  go_ret
  exact ⟨rfl, HS.out⟩
theorem cl4_any (bd : Nat) (hb : w.heap[bd]? = some (bxP p)) (h : Dk B w p x s) (hB : B ≤ w.heap.size) (hw : WF s) (hl : s.opn.length ≤ 100000) :
    Calls Tryz.prog 39 #[pv bd] w fun e w' => DoR B w p x (synP s nFresh) e w' := by
  have HC := hid (dsync_any nFresh nl.1 h hB (hw.syn nFresh).gd)
  obtain ⟨c0, -⟩ := lk1 hb
  skip
  clear h hB hw hl
  go_enter Tryz.func39, Tryz.ntmps39
  go_wp2_with fail
  refine HC.out.mono ?_
  rintro e w1 ⟨rfl, hs⟩
  have HS := hid hs
  clear hs
  go_wp2
  go_ret
  exact ⟨rfl, HS.out⟩
theorem cl5_any (bd : Nat) (hb : w.heap[bd]? = some (bxP p)) (h : Dk B w p x s) (hB : B ≤ w.heap.size) (hw : WF s) (hl : s.opn.length ≤ 100000) :
    Calls Tryz.prog 40 #[pv bd] w fun e w' => DoR B w p x (renP s nFresh nRoot) e w' := by
  have HC := hid (drename_any nFresh nRoot nl.1 nl.2 hl h hB (hw.ren nFresh nRoot).gd)
  obtain ⟨c0, -⟩ := lk1 hb
  skip
  clear h hB hw hl
  go_enter Tryz.func40, Tryz.ntmps40
  go_wp2_with fail
  refine HC.out.mono ?_
  rintro e w1 ⟨rfl, hs⟩
  have HS := hid hs
  clear hs
  go_wp2
  go_ret
  exact ⟨rfl, HS.out⟩

end
theorem enW0 (args : Array Value) (w : World) : Sem.run Tryz.prog (callFunc 35 args) w = .ok (.enter 35 args) w := enter_of Tryz.func35 (by kernel_rfl) (by kernel_rfl) args w
theorem enW1 (args : Array Value) (w : World) : Sem.run Tryz.prog (callFunc 37 args) w = .ok (.enter 37 args) w := enter_of Tryz.func37 (by kernel_rfl) (by kernel_rfl) args w
theorem enW2 (args : Array Value) (w : World) : Sem.run Tryz.prog (callFunc 38 args) w = .ok (.enter 38 args) w := enter_of Tryz.func38 (by kernel_rfl) (by kernel_rfl) args w
theorem enW3 (args : Array Value) (w : World) : Sem.run Tryz.prog (callFunc 39 args) w = .ok (.enter 39 args) w := enter_of Tryz.func39 (by kernel_rfl) (by kernel_rfl) args w
theorem enW4 (args : Array Value) (w : World) : Sem.run Tryz.prog (callFunc 40 args) w = .ok (.enter 40 args) w := enter_of Tryz.func40 (by kernel_rfl) (by kernel_rfl) args w
theorem enW5 (args : Array Value) (w : World) : Sem.run Tryz.prog (callFunc 23 args) w = .ok (.enter 23 args) w := enter_of Tryz.func23 (by kernel_rfl) (by kernel_rfl) args w
abbrev wcalls (p bd bb : Nat) : Array Value := #[.func (.func 35) #[] #[pv bd], .func (.func 37) #[] #[pv bd], .func (.func 38) #[] #[pv bd, pv bb], .func (.func 39) #[] #[pv bd], .func (.func 40) #[] #[pv bd], .func (.func 23) #[pv p] #[]]
theorem seqP_cons (f : PS → Nat × PS) (r : List (PS → Nat × PS)) (s : PS) : seqP (f :: r) s = if (f s).1 = 0 then seqP r (f s).2 else f s := rfl
set_option maxHeartbeats 4000000 in
theorem inOrder_any {B : Nat} {w : World} {p : Nat} {x : DX} {s : PS} (bd bb gc : Nat) (v : Value) (b : List UInt8) (h : Dk B w p x s) (hB : B ≤ w.heap.size) (hw : WF s) (hl : s.opn.length ≤ 90000)
    (hbd : w.heap[bd]? = some (bxP p)) (hbb : w.heap[bb]? = some (bxB v)) (hgc : w.heap[gc]? = some (.cells (wcalls p bd bb) 55 (0, 0))) (N0 : Nat) (hv : Own w N0 5 v b) (hbl : b.length ≤ 1048576)
    (hn : ∀ q ∈ x.blk p, q < N0) (h0 : N0 ≤ bd ∧ N0 ≤ bb ∧ N0 ≤ gc) :
    Calls Tryz.prog 34 #[.slice (some ⟨gc, 0, none⟩) 6 6] w fun e w' => DoR B w p x (seqP (wrOps b) s) e w' := by
  obtain ⟨R, hR⟩ : ∃ R, seqP (wrOps b) s = R := ⟨_, rfl⟩
  have HR0 : Hid (seqP ((wrOps b).drop 0) s = R) := hid hR
  rw [hR]
  have HS0 : Hid (Stp B w p x s w) := hid ⟨x, h, Fr.refl _ _, Below.refl _ _, fun q hq => .inl hq⟩
  have HB := hid hB
  have HW0 := hid hw
  have HL0 := hid hl
  have HBD := hid (fun w' (f : Fr (x.blk p) w w') => fr_at16 f hbd (fun hm => by have := hn _ hm; omega))
  have HBB := hid (fun w' (f : Fr (x.blk p) w w') => fr_at16 f hbb (fun hm => by have := hn _ hm; omega))
  have HGC := hid (fun w' (f : Fr (x.blk p) w w') => fr_at16 f hgc (fun hm => by have := hn _ hm; omega))
  have HV := hid (fun w' (f : Fr (x.blk p) w w') => (show Own w' N0 5 v b from ownsRow_fr hv f (fun q hq hm => by have := row_lo hv q hq; have := hn _ hm; omega)).byt)
  have HBL := hid hbl
  clear h hB hw hl hbd hbb hgc hv hbl hn h0 hR
  go_enter Tryz.func34, Tryz.ntmps34
  go_wp2
  go_loopw [8] (fun iv wr => ∃ (i : Nat) (t : PS), i ≤ 6 ∧ iv = .int .i64 (i : Int) ∧ Hid (Stp B w p x t wr) ∧ Hid (WF t) ∧ Hid (t.opn.length ≤ 90000 + i) ∧ Hid (seqP ((wrOps b).drop i) t = R)) (fun iv _ => 6 - (intOf iv).toNat)
  case atStart => exact ⟨0, s, by omega, rfl, HS0, HW0, HL0, HR0⟩
  case round =>
    clear HS0 HW0 HL0 HR0
    obtain ⟨i, t, hi, rfl, HS, HW, HL, HR⟩ := hrel
    obtain ⟨x1, d1, f1, b1, q1⟩ := HS.out
    have hg := HGC.out wr f1
    have HD1 := hid d1
    have HF1 := hid f1
    have HB1 := hid b1
    have HQ1 := hid q1
    have HBR := hid (Nat.le_trans HB.out f1.size)
    have cg : ∀ j (hj : j < 6), wr.cell? ⟨gc, j, none⟩ = some ((wcalls p bd bb).getD j undef) := fun j hj => by
      rw [cell_of_row _ _ _ _ _ _ hg]
      match j, hj with
      | 0, _ => rfl
      | 1, _ => rfl
      | 2, _ => rfl
      | 3, _ => rfl
      | 4, _ => rfl
      | 5, _ => rfl
    have HCG := hid cg
    clear d1 f1 b1 q1 hg cg
    rcases (show i = 0 ∨ i = 1 ∨ i = 2 ∨ i = 3 ∨ i = 4 ∨ i = 5 ∨ i = 6 by omega) with rfl | rfl | rfl | rfl | rfl | rfl | rfl
    · have cc := HCG.out 0 (by omega)
      have hen := enW0
      dsimp only [wcalls] at cc
      have hcc : wr.cell? ⟨gc, 0, none⟩ = some (wcalls p bd bb)[0] := cc
      dsimp only [wcalls] at hcc
      clear cc
      obtain ⟨Q, hQ⟩ : ∃ Q, delT nFresh t = Q := ⟨_, rfl⟩
      have hr : (if (delT nFresh t).1 = 0 then seqP ((wrOps b).drop 1) (delT nFresh t).2 else delT nFresh t) = R := HR.out
      have hwf := HW.out.delT nFresh
      have hop := delT_opn t nFresh
      have hc := cl1_any bd (HBD.out wr HF1.out) HD1.out HBR.out HW.out (by have := HL.out; omega)
      rw [hQ] at hr hwf hop hc
      have HRQ := hid hr
      have HWF := hid hwf
      have HOP := hid hop
      have HC := hid hc
      clear hQ hr hwf hop hc
      obtain ⟨c, t2⟩ := Q
      go_wp2_with fail
      refine HC.out.mono ?_
      rintro e w2 ⟨rfl, hs⟩
      have HS2 := hid (stp_comp HF1.out HB1.out HQ1.out hs)
      clear hs hcc
      by_cases h0 : c = 0
      · subst h0
        have HR2 : Hid (seqP ((wrOps b).drop 1) t2 = R) := hid (by have := HRQ.out; rw [if_pos rfl] at this; exact this)
        go_wp2
        go_roundw
        case rel => exact ⟨1, t2, by omega, by go_num, HS2, HWF, hid (by have h2 := HL.out; have h3 : t2.opn.length ≤ t.opn.length + 1 := HOP.out; omega), HR2⟩
        case measure => simp [intOf]
      · have hcb : ((c : Int) == 0) = false := by rw [beq_eq_false_iff_ne]; omega
        have HR2 : Hid ((c, t2) = R) := hid (by have := HRQ.out; rw [if_neg h0] at this; exact this)
        clear h0
        go_wp2
        go_ret
        unfold DoR
        rw [← HR2.out]
        exact ⟨rfl, HS2.out⟩
    · have cc := HCG.out 1 (by omega)
      have hen := enW1
      dsimp only [wcalls] at cc
      have hcc : wr.cell? ⟨gc, 1, none⟩ = some (wcalls p bd bb)[1] := cc
      dsimp only [wcalls] at hcc
      clear cc
      obtain ⟨Q, hQ⟩ : ∃ Q, creP t nFresh = Q := ⟨_, rfl⟩
      have hr : (if (creP t nFresh).1 = 0 then seqP ((wrOps b).drop 2) (creP t nFresh).2 else creP t nFresh) = R := HR.out
      have hwf := HW.out.cre nFresh
      have hop := creP_opn t nFresh
      have hc := cl2_any bd (HBD.out wr HF1.out) HD1.out HBR.out HW.out (by have := HL.out; omega)
      rw [hQ] at hr hwf hop hc
      have HRQ := hid hr
      have HWF := hid hwf
      have HOP := hid hop
      have HC := hid hc
      clear hQ hr hwf hop hc
      obtain ⟨c, t2⟩ := Q
      go_wp2_with fail
      refine HC.out.mono ?_
      rintro e w2 ⟨rfl, hs⟩
      have HS2 := hid (stp_comp HF1.out HB1.out HQ1.out hs)
      clear hs hcc
      by_cases h0 : c = 0
      · subst h0
        have HR2 : Hid (seqP ((wrOps b).drop 2) t2 = R) := hid (by have := HRQ.out; rw [if_pos rfl] at this; exact this)
        go_wp2
        go_roundw
        case rel => exact ⟨2, t2, by omega, by go_num, HS2, HWF, hid (by have h2 := HL.out; have h3 : t2.opn.length ≤ t.opn.length + 1 := HOP.out; omega), HR2⟩
        case measure => simp [intOf]
      · have hcb : ((c : Int) == 0) = false := by rw [beq_eq_false_iff_ne]; omega
        have HR2 : Hid ((c, t2) = R) := hid (by have := HRQ.out; rw [if_neg h0] at this; exact this)
        clear h0
        go_wp2
        go_ret
        unfold DoR
        rw [← HR2.out]
        exact ⟨rfl, HS2.out⟩
    · have cc := HCG.out 2 (by omega)
      have hen := enW2
      dsimp only [wcalls] at cc
      have hcc : wr.cell? ⟨gc, 2, none⟩ = some (wcalls p bd bb)[2] := cc
      dsimp only [wcalls] at hcc
      clear cc
      obtain ⟨Q, hQ⟩ : ∃ Q, appP t nFresh b = Q := ⟨_, rfl⟩
      have hr : (if (appP t nFresh b).1 = 0 then seqP ((wrOps b).drop 3) (appP t nFresh b).2 else appP t nFresh b) = R := HR.out
      have hwf := HW.out.app nFresh b
      have hop := appP_opn t nFresh b
      have hc := cl3_any bd (HBD.out wr HF1.out) bb v b (HBB.out wr HF1.out) (HV.out wr HF1.out) HBL.out HD1.out HBR.out HW.out (by have := HL.out; omega)
      rw [hQ] at hr hwf hop hc
      have HRQ := hid hr
      have HWF := hid hwf
      have HOP := hid hop
      have HC := hid hc
      clear hQ hr hwf hop hc
      obtain ⟨c, t2⟩ := Q
      go_wp2_with fail
      refine HC.out.mono ?_
      rintro e w2 ⟨rfl, hs⟩
      have HS2 := hid (stp_comp HF1.out HB1.out HQ1.out hs)
      clear hs hcc
      by_cases h0 : c = 0
      · subst h0
        have HR2 : Hid (seqP ((wrOps b).drop 3) t2 = R) := hid (by have := HRQ.out; rw [if_pos rfl] at this; exact this)
        go_wp2
        go_roundw
        case rel => exact ⟨3, t2, by omega, by go_num, HS2, HWF, hid (by have h2 := HL.out; have h3 : t2.opn.length ≤ t.opn.length + 1 := HOP.out; omega), HR2⟩
        case measure => simp [intOf]
      · have hcb : ((c : Int) == 0) = false := by rw [beq_eq_false_iff_ne]; omega
        have HR2 : Hid ((c, t2) = R) := hid (by have := HRQ.out; rw [if_neg h0] at this; exact this)
        clear h0
        go_wp2
        go_ret
        unfold DoR
        rw [← HR2.out]
        exact ⟨rfl, HS2.out⟩
    · have cc := HCG.out 3 (by omega)
      have hen := enW3
      dsimp only [wcalls] at cc
      have hcc : wr.cell? ⟨gc, 3, none⟩ = some (wcalls p bd bb)[3] := cc
      dsimp only [wcalls] at hcc
      clear cc
      obtain ⟨Q, hQ⟩ : ∃ Q, synP t nFresh = Q := ⟨_, rfl⟩
      have hr : (if (synP t nFresh).1 = 0 then seqP ((wrOps b).drop 4) (synP t nFresh).2 else synP t nFresh) = R := HR.out
      have hwf := HW.out.syn nFresh
      have hop := synP_opn t nFresh
      have hc := cl4_any bd (HBD.out wr HF1.out) HD1.out HBR.out HW.out (by have := HL.out; omega)
      rw [hQ] at hr hwf hop hc
      have HRQ := hid hr
      have HWF := hid hwf
      have HOP := hid hop
      have HC := hid hc
      clear hQ hr hwf hop hc
      obtain ⟨c, t2⟩ := Q
      go_wp2_with fail
      refine HC.out.mono ?_
      rintro e w2 ⟨rfl, hs⟩
      have HS2 := hid (stp_comp HF1.out HB1.out HQ1.out hs)
      clear hs hcc
      by_cases h0 : c = 0
      · subst h0
        have HR2 : Hid (seqP ((wrOps b).drop 4) t2 = R) := hid (by have := HRQ.out; rw [if_pos rfl] at this; exact this)
        go_wp2
        go_roundw
        case rel => exact ⟨4, t2, by omega, by go_num, HS2, HWF, hid (by have h2 := HL.out; have h3 : t2.opn.length ≤ t.opn.length + 1 := HOP.out; omega), HR2⟩
        case measure => simp [intOf]
      · have hcb : ((c : Int) == 0) = false := by rw [beq_eq_false_iff_ne]; omega
        have HR2 : Hid ((c, t2) = R) := hid (by have := HRQ.out; rw [if_neg h0] at this; exact this)
        clear h0
        go_wp2
        go_ret
        unfold DoR
        rw [← HR2.out]
        exact ⟨rfl, HS2.out⟩
    · have cc := HCG.out 4 (by omega)
      have hen := enW4
      dsimp only [wcalls] at cc
      have hcc : wr.cell? ⟨gc, 4, none⟩ = some (wcalls p bd bb)[4] := cc
      dsimp only [wcalls] at hcc
      clear cc
      obtain ⟨Q, hQ⟩ : ∃ Q, renP t nFresh nRoot = Q := ⟨_, rfl⟩
      have hr : (if (renP t nFresh nRoot).1 = 0 then seqP ((wrOps b).drop 5) (renP t nFresh nRoot).2 else renP t nFresh nRoot) = R := HR.out
      have hwf := HW.out.ren nFresh nRoot
      have hop := renP_opn t nFresh nRoot
      have hc := cl5_any bd (HBD.out wr HF1.out) HD1.out HBR.out HW.out (by have := HL.out; omega)
      rw [hQ] at hr hwf hop hc
      have HRQ := hid hr
      have HWF := hid hwf
      have HOP := hid hop
      have HC := hid hc
      clear hQ hr hwf hop hc
      obtain ⟨c, t2⟩ := Q
      go_wp2_with fail
      refine HC.out.mono ?_
      rintro e w2 ⟨rfl, hs⟩
      have HS2 := hid (stp_comp HF1.out HB1.out HQ1.out hs)
      clear hs hcc
      by_cases h0 : c = 0
      · subst h0
        have HR2 : Hid (seqP ((wrOps b).drop 5) t2 = R) := hid (by have := HRQ.out; rw [if_pos rfl] at this; exact this)
        go_wp2
        go_roundw
        case rel => exact ⟨5, t2, by omega, by go_num, HS2, HWF, hid (by have h2 := HL.out; have h3 : t2.opn.length ≤ t.opn.length + 1 := HOP.out; omega), HR2⟩
        case measure => simp [intOf]
      · have hcb : ((c : Int) == 0) = false := by rw [beq_eq_false_iff_ne]; omega
        have HR2 : Hid ((c, t2) = R) := hid (by have := HRQ.out; rw [if_neg h0] at this; exact this)
        clear h0
        go_wp2
        go_ret
        unfold DoR
        rw [← HR2.out]
        exact ⟨rfl, HS2.out⟩
    · have cc := HCG.out 5 (by omega)
      have hen := enW5
      dsimp only [wcalls] at cc
      have hcc : wr.cell? ⟨gc, 5, none⟩ = some (wcalls p bd bb)[5] := cc
      dsimp only [wcalls] at hcc
      clear cc
      obtain ⟨Q, hQ⟩ : ∃ Q, dsyP t = Q := ⟨_, rfl⟩
      have hr : (if (dsyP t).1 = 0 then seqP ((wrOps b).drop 6) (dsyP t).2 else dsyP t) = R := HR.out
      have hwf := HW.out.dsy
      have hop := dsyP_opn t
      have hc := ddsync_any HD1.out HBR.out HW.out.dsy.gd
      rw [hQ] at hr hwf hop hc
      have HRQ := hid hr
      have HWF := hid hwf
      have HOP := hid hop
      have HC := hid hc
      clear hQ hr hwf hop hc
      obtain ⟨c, t2⟩ := Q
      go_wp2_with fail
      refine HC.out.mono ?_
      rintro e w2 ⟨rfl, hs⟩
      have HS2 := hid (stp_comp HF1.out HB1.out HQ1.out hs)
      clear hs hcc
      by_cases h0 : c = 0
      · subst h0
        have HR2 : Hid (seqP ((wrOps b).drop 6) t2 = R) := hid (by have := HRQ.out; rw [if_pos rfl] at this; exact this)
        go_wp2
        go_roundw
        case rel => exact ⟨6, t2, by omega, by go_num, HS2, HWF, hid (by have h2 := HL.out; have h3 : t2.opn.length ≤ t.opn.length + 1 := HOP.out; omega), HR2⟩
        case measure => simp [intOf]
      · have hcb : ((c : Int) == 0) = false := by rw [beq_eq_false_iff_ne]; omega
        have HR2 : Hid ((c, t2) = R) := hid (by have := HRQ.out; rw [if_neg h0] at this; exact this)
        clear h0
        go_wp2
        go_ret
        unfold DoR
        rw [← HR2.out]
        exact ⟨rfl, HS2.out⟩
    · have HE : Hid (R = (0, t)) := hid HR.out.symm
      go_wp2
      go_ret
      unfold DoR
      rw [HE.out]
      exact ⟨rfl, HS.out⟩
end Go.Proofs.YtijpokajhjhllaaGreatDoor

set_option linter.unusedSimpArgs false
set_option linter.unusedVariables false
set_option maxRecDepth 100000
namespace Go.Proofs.YtijpokajhjhllaaGreatDoor
open Go Go.RowKit Go.Tum Go.ChangeMaps Go.Tum.Crc

abbrev rtO (r : Rt) : Obj := .cells (rtC r) 35 (0, 0)
theorem wrap_u {n : Int} (h0 : 0 ≤ n) (h1 : n ≤ 1000000) : IntKind.u64.wrap n = ((UInt64.ofNat n.toNat).toNat : Int) := by
  rw [u64_int h0 h1, IntKind.wrap_u64]
  omega
theorem lk3r {w : World} {b : Nat} {v0 v1 v2 : Value} {ty : TypeId} (h : w.heap[b]? = some (.cells #[v0, v1, v2] ty (0, 0))) :
    w.cell? ⟨b, 0, none⟩ = some v0 ∧ w.cell? ⟨b, 1, none⟩ = some v1 ∧ w.cell? ⟨b, 2, none⟩ = some v2 ∧ True := by
  refine ⟨by rw [cell_of_row _ _ _ _ _ _ h]; rfl, by rw [cell_of_row _ _ _ _ _ _ h]; rfl, by rw [cell_of_row _ _ _ _ _ _ h]; rfl, trivial⟩
theorem rt_bytes (r : Rt) : recBytes (rtRec r) = (rtBytes r, 0) := by
  unfold recBytes
  rw [rt_rec]
  rfl
set_option maxHeartbeats 4000000 in
theorem write_any {B : Nat} {w : World} {p : Nat} {x : DX} {s : PS} (r : Rt) (h : Dk B w p x s) (hB : B ≤ w.heap.size) (hw : WF s) (hl : s.opn.length ≤ 90000) (ht : Tab w) :
    Calls Tryz.prog 7 #[pv p, rtV r] w fun e w' => DoR B w p x (wrP s r) e w' := by
  obtain ⟨R, hR⟩ : ∃ R, wrP s r = R := ⟨_, rfl⟩
  have HR := hid hR
  rw [hR]
  have H := hid h
  have HB := hid hB
  have HW := hid hw
  have HL := hid hl
  have HT := hid ht
  have HLT := hid h.lt16
  clear h hB hw hl ht hR
  have hb1 := heap_alloc_new w (bxP p)
  have hb2 := heap_alloc_new (w.alloc (bxP p)) (rtO r)
  rw [World.size_alloc] at hb2
  have hE1 := (Ext.alloc w (bxP p)).trans (Ext.alloc (w.alloc (bxP p)) (rtO r))
  have hb1' := (Ext.alloc (w.alloc (bxP p)) (rtO r)).obj hb1
  have HB1 := hid hb1'
  have HB2 := hid hb2
  have HE1 := hid hE1
  obtain ⟨gen, l, pa, de, se⟩ := r
  go_enter Tryz.func7, Tryz.ntmps7
  clear hb1 hb1' hE1
  have c0 : ((w.alloc (bxP p)).alloc (rtO ⟨gen, l, pa, de, se⟩)).cell? ⟨w.heap.size + 1, 0, none⟩ = some (uv gen) := by rw [cell_of_row _ _ _ _ _ _ hb2]; rfl
  have c1 : ((w.alloc (bxP p)).alloc (rtO ⟨gen, l, pa, de, se⟩)).cell? ⟨w.heap.size + 1, 1, none⟩ = some (.int .i64 l) := by rw [cell_of_row _ _ _ _ _ _ hb2]; rfl
  have c2 : ((w.alloc (bxP p)).alloc (rtO ⟨gen, l, pa, de, se⟩)).cell? ⟨w.heap.size + 1, 2, none⟩ = some (.int .i64 pa) := by rw [cell_of_row _ _ _ _ _ _ hb2]; rfl
  have c3 : ((w.alloc (bxP p)).alloc (rtO ⟨gen, l, pa, de, se⟩)).cell? ⟨w.heap.size + 1, 3, none⟩ = some (.int .i64 de) := by rw [cell_of_row _ _ _ _ _ _ hb2]; rfl
  have c4 : ((w.alloc (bxP p)).alloc (rtO ⟨gen, l, pa, de, se⟩)).cell? ⟨w.heap.size + 1, 4, none⟩ = some (.int .i64 se) := by rw [cell_of_row _ _ _ _ _ _ hb2]; rfl
  clear hb2
  go_wp2_with fail
  clear c0 c1 c2 c3 c4
  obtain ⟨N0, hN0⟩ : ∃ N, w.heap.size = N := ⟨_, rfl⟩
  have HN0 := hid hN0
  rw [hN0] at HB1 HB2 HLT
  try rw [hN0]
  clear hN0
  generalize (w.alloc (bxP p)).alloc (rtO ⟨gen, l, pa, de, se⟩) = W1 at *
  obtain ⟨rb, hrb⟩ : ∃ b, rtB ⟨gen, l, pa, de, se⟩ = b := ⟨_, rfl⟩
  have HRB := hid hrb
  have hc := rt_any ⟨gen, l, pa, de, se⟩ W1
  rw [hrb] at hc
  clear hrb
  refine hc.mono ?_
  clear hc
  rintro e w3 ⟨rfl, hx⟩
  have HE3 := hid (HE1.out.trans hx)
  have HD3 := hid (hx.obj HB1.out)
  have hr3 := hx.obj HB2.out
  have HR3 := hid hr3
  clear hx HB1 HB2 HE1
  cases rb
  case false =>
    have HQ : Hid (R = (1, s)) := hid (by rw [← HR.out]; unfold wrP; rw [HRB.out]; rfl)
    clear hr3
    go_wp2
    go_ret
    unfold DoR
    rw [HQ.out]
    exact ⟨rfl, Stp.same H.out HE3.out HB.out⟩
  have HQ : Hid (R = seqP (wrOps (rtBytes ⟨gen, l, pa, de, se⟩)) s) := hid (by rw [← HR.out]; unfold wrP; rw [HRB.out]; rfl)
  have hbd : (0 ≤ l ∧ l ≤ 1000000) ∧ (0 ≤ pa ∧ pa ≤ 1000000) ∧ (0 ≤ de ∧ de ≤ 1000000) ∧ (0 ≤ se ∧ se ≤ 1000000) := by
    have := HRB.out
    unfold rtB cfgB at this
    simp only [Bool.and_eq_true, decide_eq_true_eq] at this
    omega
  have hu1 := wrap_u hbd.1.1 hbd.1.2
  have hu2 := wrap_u hbd.2.1.1 hbd.2.1.2
  have hu3 := wrap_u hbd.2.2.1.1 hbd.2.2.1.2
  have hu4 := wrap_u hbd.2.2.2.1 hbd.2.2.2.2
  obtain ⟨u1, hq1⟩ : ∃ u, UInt64.ofNat l.toNat = u := ⟨_, rfl⟩
  obtain ⟨u2, hq2⟩ : ∃ u, UInt64.ofNat pa.toNat = u := ⟨_, rfl⟩
  obtain ⟨u3, hq3⟩ : ∃ u, UInt64.ofNat de.toNat = u := ⟨_, rfl⟩
  obtain ⟨u4, hq4⟩ : ∃ u, UInt64.ofNat se.toNat = u := ⟨_, rfl⟩
  rw [hq1] at hu1
  rw [hq2] at hu2
  rw [hq3] at hu3
  rw [hq4] at hu4
  have HRC : Hid (rtRec ⟨gen, l, pa, de, se⟩ = ⟨12, [gen, u1, u2, u3, u4], []⟩) := hid (by unfold rtRec; rw [hq1, hq2, hq3, hq4])
  clear hbd hq1 hq2 hq3 hq4
  have c0 : ∀ o, (w3.alloc o).cell? ⟨N0 + 1, 0, none⟩ = some (uv gen) := fun o => (Ext.alloc w3 o).cell (by rw [cell_of_row _ _ _ _ _ _ hr3]; rfl)
  have c1 : w3.cell? ⟨N0 + 1, 1, none⟩ = some (.int .i64 l) := by rw [cell_of_row _ _ _ _ _ _ hr3]; rfl
  have c2 : w3.cell? ⟨N0 + 1, 2, none⟩ = some (.int .i64 pa) := by rw [cell_of_row _ _ _ _ _ _ hr3]; rfl
  have c3 : w3.cell? ⟨N0 + 1, 3, none⟩ = some (.int .i64 de) := by rw [cell_of_row _ _ _ _ _ _ hr3]; rfl
  have c4 : ∀ o, (w3.alloc o).cell? ⟨N0 + 1, 4, none⟩ = some (.int .i64 se) := fun o => (Ext.alloc w3 o).cell (by rw [cell_of_row _ _ _ _ _ _ hr3]; rfl)
  have hbc := heap_alloc_new w3 (.cells #[.int .i64 l, .int .i64 pa, .int .i64 de] 33 (0, 0))
  obtain ⟨d0, d1, d2, -⟩ := lk3r hbc
  have HE4 := hid (HE3.out.trans (Ext.alloc w3 (.cells #[.int .i64 l, .int .i64 pa, .int .i64 de] 33 (0, 0))))
  have HD4 := hid ((Ext.alloc w3 (.cells #[.int .i64 l, .int .i64 pa, .int .i64 de] 33 (0, 0))).obj HD3.out)
  clear hr3 hbc
  have hS4 : (w3.alloc (.cells #[.int .i64 l, .int .i64 pa, .int .i64 de] 33 (0, 0))).heap.size = w3.heap.size + 1 := World.size_alloc _ _
  have HV := owv_lit (f := uv) (w3.alloc (.cells #[.int .i64 l, .int .i64 pa, .int .i64 de] 33 (0, 0))) (w3.alloc (.cells #[.int .i64 l, .int .i64 pa, .int .i64 de] 33 (0, 0))).heap.size 31 [gen, u1, u2, u3, u4] #[uv gen, uv u1, uv u2, uv u3, uv u4] rfl 5 rfl (Nat.le_refl _) (by simp [maxLen])
  rw [hS4] at HV
  have HVV := hid HV.vec
  have HE5 := hid (HE4.out.trans (Ext.alloc (w3.alloc (.cells #[.int .i64 l, .int .i64 pa, .int .i64 de] 33 (0, 0))) (.cells #[uv gen, uv u1, uv u2, uv u3, uv u4] 31 (0, 0))))
  have HD5 := hid ((Ext.alloc (w3.alloc (.cells #[.int .i64 l, .int .i64 pa, .int .i64 de] 33 (0, 0))) (.cells #[uv gen, uv u1, uv u2, uv u3, uv u4] 31 (0, 0))).obj HD4.out)
  clear HV hS4
  go_wp2_with fail
  clear c0 c1 c2 c3 c4 d0 d1 d2 hu1 hu2 hu3 hu4
  have hc := bytes5_any ⟨12, [gen, u1, u2, u3, u4], []⟩ _ _ HVV.out (HT.out.ext HE5.out)
  rw [← HRC.out, rt_bytes] at hc
  obtain ⟨bs, hbs⟩ : ∃ b, rtBytes ⟨gen, l, pa, de, se⟩ = b := ⟨_, rfl⟩
  have HBS := hid hbs
  rw [hbs] at hc
  have HBL := hid (rt_len ⟨gen, l, pa, de, se⟩)
  rw [hbs] at HBL HQ
  clear hbs
  refine hc.mono ?_
  clear hc
  rintro e w6 ⟨xv, rfl, ho, hx⟩
  obtain ⟨xo, xc, hxe⟩ := ho.owv.shape
  obtain ⟨nb, hnb⟩ : ∃ n, bs.length = n := ⟨_, rfl⟩
  have HNB := hid hnb
  rw [hnb] at hxe
  subst hxe
  have HO6 := hid (owns_mono (b' := N0) ho (by have := HE5.out.size; have := HN0.out; omega))
  have HE6 := hid (HE5.out.trans hx)
  have HD6 := hid (hx.obj HD5.out)
  clear ho hx HD5 HD4 HD3 HR3 HE5 HE4 HE3 HVV hnb
  have hbb := heap_alloc_new w6 (bxB (.slice xo nb xc))
  have k0 : ∀ o, (w6.alloc o).cell? ⟨N0, 0, none⟩ = some (pv p) := fun o => (Ext.alloc w6 o).cell (lk1 HD6.out).1
  have HE7 := hid ((HE6.out.trans (Ext.alloc w6 (bxB (.slice xo nb xc)))).trans (Ext.alloc (w6.alloc (bxB (.slice xo nb xc))) (.cells (wcalls p N0 w6.heap.size) 55 (0, 0))))
  have HE8 := hid ((Ext.alloc w6 (bxB (.slice xo nb xc))).trans (Ext.alloc (w6.alloc (bxB (.slice xo nb xc))) (.cells (wcalls p N0 w6.heap.size) 55 (0, 0))))
  have HBB := hid ((Ext.alloc (w6.alloc (bxB (.slice xo nb xc))) (.cells (wcalls p N0 w6.heap.size) 55 (0, 0))).obj hbb)
  have hgc := heap_alloc_new (w6.alloc (bxB (.slice xo nb xc))) (.cells (wcalls p N0 w6.heap.size) 55 (0, 0))
  rw [World.size_alloc] at hgc
  have HGC := hid hgc
  have HSZ : Hid (N0 ≤ w6.heap.size) := hid (by have := HE6.out.size; have := HN0.out; omega)
  clear hbb hgc
  go_wp2_with fail
  clear k0
  have hc := inOrder_any N0 w6.heap.size (w6.heap.size + 1) (.slice xo nb xc) bs (H.out.ext HE7.out) (Nat.le_trans HB.out HE7.out.size) HW.out HL.out (HE8.out.obj HD6.out) HBB.out HGC.out N0 (HE8.out.owns HO6.out) (by have := HBL.out; omega) HLT.out (by have := HSZ.out; omega)
  rw [← HQ.out] at hc
  refine hc.mono ?_
  clear hc
  rintro e w9 hd
  have hd2 := hd.ext HE7.out HB.out
  obtain ⟨rfl, hs⟩ := hd2
  have HS := hid hs
  clear hd hs
  go_wp2
  go_ret
  exact ⟨rfl, HS.out⟩
end Go.Proofs.YtijpokajhjhllaaGreatDoor

