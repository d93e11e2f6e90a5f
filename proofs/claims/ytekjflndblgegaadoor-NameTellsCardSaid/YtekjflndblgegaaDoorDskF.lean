/- Create. -/
import Derived.Test.YtekjflndblgegaaDoorDskE
set_option linter.unusedSimpArgs false
set_option linter.unusedVariables false
namespace Go.Proofs.YtekjflndblgegaaDoor
open Go Go.RowKit Go.Tum Go.ChangeMaps
open Go.ParB (upd Lof)
open Go.ParE (putS slotsR slots Closed)

theorem newOf_mem {l : List Chg} {f : Nat} (h : f ∈ newOf l) : ∃ c ∈ l, c.file = some f ∧ c.frm = [] := by
  unfold newOf at h
  obtain ⟨c, hc, e⟩ := List.mem_filterMap.1 h
  split at e
  · exact ⟨c, hc, e, by assumption⟩
  · cases e
theorem Gd.cnt {s : PS} (h : Gd s) : ∀ f ∈ cntd s, f < s.files.length := by
  intro f hf
  unfold cntd at hf
  rcases List.mem_append.1 hf with hf | hf
  · obtain ⟨z, hz, rfl⟩ := List.mem_map.1 hf
    exact (h.snm hz).2
  · obtain ⟨c, hc, e, -⟩ := newOf_mem hf
    exact (h.op c hc).2.2.1 f e
theorem sumL_congr {fs gs : List (List UInt8 × Nat)} {l : List Nat} (h : ∀ f ∈ l, flen fs f = flen gs f) : sumL fs l = sumL gs l := by
  unfold sumL
  rw [List.map_congr_left h]
def filS (s : PS) : PS := { s with files := s.files ++ [([], 0)] }
theorem flen_app {fs : List (List UInt8 × Nat)} {f : Nat} (h : f < fs.length) : flen (fs ++ [([], 0)]) f = flen fs f := by
  unfold flen
  rw [List.getD_eq_getElem?_getD, List.getD_eq_getElem?_getD, List.getElem?_append_left h]
theorem gd_fil {s : PS} (h : Gd s) : Gd (filS s) := by
  refine ⟨h.rm, h.ds, fun k z hz => ⟨(h.nm k z hz).1, ?_⟩, fun c hc => ⟨(h.op c hc).1, (h.op c hc).2.1, fun f hf => ?_, (h.op c hc).2.2.2⟩, fun y hy => ?_, ?_, h.dk, h.fu⟩
  · have := (h.nm k z hz).2
    show z.2 < (s.files ++ [([], 0)]).length
    simp; omega
  · have := (h.op c hc).2.2.1 f hf
    show f < (s.files ++ [([], 0)]).length
    simp; omega
  · rcases List.mem_append.1 hy with hy | hy
    · exact h.fl y hy
    · simp at hy; subst hy; simp
  · have : held (filS s) = held s := sumL_congr fun f hf => flen_app (h.cnt f hf)
    rw [this]; exact h.hd
def DX.more (x : DX) (b : Nat) : DX := { x with bl := x.bl ++ [(b, .slice none 0 0)] }
theorem more_old {x : DX} {b i : Nat} (h : i < x.bl.length) : (x.more b).bk i = x.bk i ∧ (x.more b).sv i = x.sv i := by
  unfold DX.bk DX.sv DX.more
  simp only [List.getD_eq_getElem?_getD, List.getElem?_append_left h]
  exact ⟨trivial, trivial⟩
theorem more_new {x : DX} {b i : Nat} (h : i = x.bl.length) : (x.more b).bk i = b ∧ (x.more b).sv i = .slice none 0 0 := by
  subst h
  unfold DX.bk DX.sv DX.more
  simp
theorem more_hb {x : DX} {b : Nat} {d : Dir} (h : ∀ z ∈ d, z.2 < x.bl.length) : (x.more b).hb d = x.hb d := by
  unfold DX.hb
  refine List.map_congr_left fun z hz => ?_
  rw [(more_old (h z hz)).1]
theorem more_cc {x : DX} {b : Nat} {l : List Chg} (h : ∀ c ∈ l, ∀ f, c.file = some f → f < x.bl.length) : l.flatMap (x.more b).cc = l.flatMap x.cc := by
  induction l with
  | nil => rfl
  | cons c r ih =>
    rw [List.flatMap_cons, List.flatMap_cons, ih fun c hc => h c (List.mem_cons_of_mem _ hc)]
    congr 1
    unfold DX.cc
    cases hf : c.file with
    | none => rfl
    | some f =>
      simp only [Option.map_some]
      rw [(more_old (h c (by simp) f hf)).1]
theorem Dk.more {B : Nat} {w w1 : World} {p : Nat} {x : DX} {s : PS} (h : Dk B w p x s) (k : Ext w w1) (hb : w1.heap[w.heap.size]? = some (fileO (.slice none 0 0) 0)) (hB : B ≤ w.heap.size) : Dk B w1 p (x.more w.heap.size) (filS s) := by
  have H := h.ext k
  have hlt : ∀ i, i < s.files.length → i < x.bl.length := fun i hi => by rw [h.fn]; exact hi
  have hbl : ∀ q ∈ x.bl.map Prod.fst, q < w.heap.size := by
    intro q hq
    obtain ⟨i, hi, e⟩ := List.mem_iff_getElem.1 hq
    have hi2 : i < s.files.length := by rw [← h.fn]; simpa using hi
    have := (h.fi i hi2).1
    have e2 : x.bk i = q := by rw [← e]; simp [DX.bk, List.getD_eq_getElem?_getD, hlt i hi2]
    rw [e2] at this
    exact (Array.getElem?_eq_some_iff.1 this).1
  refine ⟨H.hd, ?_, ?_, ?_, ?_, fun i hi => ?_, ?_, fun i j hi hj hij g hg => ?_, h.ne, ⟨h.lo.1, h.lo.2.1, h.lo.2.2.1, fun i hi => ?_⟩, gd_fil h.gd⟩
  · show PM w1 x.md ((x.more w.heap.size).hb s.dir)
    rw [more_hb fun z hz => hlt _ (h.gd.dnm hz).2]; exact H.dr
  · show PM w1 x.ms ((x.more w.heap.size).hb s.sure)
    rw [more_hb fun z hz => hlt _ (h.gd.snm hz).2]; exact H.sr
  · show w1.ownsRow B 61 3 x.vo s.opn.length (s.opn.flatMap (x.more w.heap.size).cc)
    rw [more_cc fun c hc f hf => hlt f ((h.gd.op c hc).2.2.1 f hf)]; exact H.op
  · simp [DX.more, filS, h.fn]
  · simp only [filS, List.length_append, List.length_cons, List.length_nil] at hi
    by_cases hlast : i < s.files.length
    · obtain ⟨e1, e2⟩ := more_old (b := w.heap.size) (hlt i hlast)
      rw [e1, e2]
      have : (filS s).files[i]'(by simp [filS]; omega) = s.files[i] := List.getElem_append_left hlast
      rw [this]; exact H.fi i hlast
    · have e : i = s.files.length := by omega
      obtain ⟨e1, e2⟩ := more_new (x := x) (b := w.heap.size) (i := i) (by rw [h.fn]; exact e)
      rw [e1, e2]
      have : (filS s).files[i]'(by simp [filS]; omega) = ([], 0) := by subst e; simp [filS]
      rw [this]
      exact ⟨hb, World.ownsRow_nil _ _ _ _⟩
  · show ((x.bl ++ [(w.heap.size, Value.slice none 0 0)]).map Prod.fst).Nodup
    rw [List.map_append, List.nodup_append]
    refine ⟨h.fd, by simp, fun a ha b hb2 e => ?_⟩
    simp at hb2
    have := hbl a ha
    omega
  · simp only [filS, List.length_append, List.length_cons, List.length_nil] at hi hj
    by_cases h1 : i < s.files.length
    · by_cases h2 : j < s.files.length
      · rw [(more_old (hlt i h1)).2] at hg
        rw [(more_old (hlt j h2)).2]
        exact h.od i j h1 h2 hij g hg
      · rw [(more_new (x := x) (b := w.heap.size) (i := j) (by rw [h.fn]; omega)).2]; simp [Value.ownBlock]
    · rw [(more_new (x := x) (b := w.heap.size) (i := i) (by rw [h.fn]; omega)).2] at hg; simp [Value.ownBlock] at hg
  · simp only [filS, List.length_append, List.length_cons, List.length_nil] at hi
    by_cases h1 : i < s.files.length
    · rw [(more_old (hlt i h1)).1]; exact h.lo.2.2.2 i h1
    · rw [(more_new (x := x) (b := w.heap.size) (i := i) (by rw [h.fn]; omega)).1]; exact hB
theorem more_blk {x : DX} {b p : Nat} : ∀ q ∈ (x.more b).blk p, q ∈ x.blk p ∨ q = b := by
  intro q hq
  simp only [DX.blk, DX.more, List.map_append, List.flatMap_append, List.mem_cons, List.mem_append] at hq ⊢
  rcases hq with h | h | h | (h | h | h) | h | h
  · exact .inl (.inl h)
  · exact .inl (.inr (.inl h))
  · exact .inl (.inr (.inr (.inl h)))
  · exact .inl (.inr (.inr (.inr (.inl (.inl h)))))
  · exact .inl (.inr (.inr (.inr (.inl (.inr h)))))
  · right; simpa using h
  · exact .inl (.inr (.inr (.inr (.inr h))))
  · simp [oB, Value.ownBlock] at h
theorem Stp.of_more {B : Nat} {w w1 w2 : World} {p b : Nat} {x : DX} {s2 : PS} (hb : w.heap.size ≤ b) (k : Ext w w1) (hB : B ≤ w.heap.size) (h : Stp B w1 p (x.more b) s2 w2) : Stp B w p x s2 w2 := by
  obtain ⟨x', d, f, bl, q⟩ := h
  refine ⟨x', d, ?_, (k.mono hB).trans bl, fun y hy => ?_⟩
  · refine ⟨f.os.trans k.os, f.tape.trans k.tape, f.output.trans k.output, Nat.le_trans k.size f.size, fun j hj hn => (f.block j (Nat.lt_of_lt_of_le hj k.size) fun hm => ?_).trans (k.block j hj)⟩
    rcases more_blk j hm with h1 | h1
    · exact hn h1
    · omega
  · rcases q y hy with h1 | h1
    · rcases more_blk y h1 with h2 | h2
      · exact .inl h2
      · exact .inr (by omega)
    · exact .inr (Nat.le_trans k.size h1)
set_option maxHeartbeats 1000000 in
theorem cre2_any {B : Nat} {w : World} {p : Nat} {x : DX} {s : PS} (n : Nm) (hk : n.length ≤ maxLen) (h : Dk B w p x s) (bd bn : Nat) (hd : Bx w bd (pv p) 35) (hn : Bx w bn (vN n) 9) (hB : B ≤ w.heap.size)
    (hg : Gd (altP ⟨[], n, some s.files.length⟩ (filS s))) (hl : s.opn.length ≤ 100000) :
    Calls Tryd.prog 24 #[bp bd, bp bn] w fun e w' => (∃ u, e = .returned u) ∧ Stp B w p x (altP ⟨[], n, some s.files.length⟩ (filS s)) w' := by
  have E1 : Ext w (w.alloc (fileO (.slice none 0 0) 0)) := Ext.alloc _ _
  have H1 := hid (h.more E1 (heap_alloc_new _ _) hB)
  have hbk : ((some s.files.length).map (x.more w.heap.size).bk) = some w.heap.size := by
    simp only [Option.map_some]
    rw [(more_new (x := x) (b := w.heap.size) (i := s.files.length) h.fn.symm).1]
  have cd := hd.cell
  have cn := hn.cell
  have HE1 := hid E1
  have HG := hid hg
  have HBK := hid hbk
  clear E1 h hd hn hg hbk
  go_enter Tryd.func24, Tryd.ntmps24
  go_wp2_with fail
  have hcall := dalt_any ⟨[], n, some s.files.length⟩ H1.out (by simp [maxLen]) hk HG.out (Nat.le_trans hB HE1.out.size) hl
  rw [HBK.out] at hcall
  refine hcall.mono ?_
  rintro e w2 ⟨⟨u, rfl⟩, h2⟩
  have HS := hid (Stp.of_more (Nat.le_refl _) HE1.out hB h2)
  clear h2 hcall
  go_wp2
  go_returns
  exact ⟨⟨_, rfl⟩, HS.out⟩
theorem Bx.fr {w w' : World} {b : Nat} {v : Value} {T : TypeId} {S : List Nat} (h : Bx w b v T) (f : Fr S w w') (hb : b ∉ S) : Bx w' b v T := (f.block b (Array.getElem?_eq_some_iff.1 h).1 hb).trans h
theorem DoR.ext {B : Nat} {w W w' : World} {p : Nat} {x : DX} {r : Nat × PS} {e : Ending} (h : DoR B W p x r e w') (k : Ext w W) (hB : B ≤ w.heap.size) : DoR B w p x r e w' := by
  obtain ⟨h1, x', d, f, b, q⟩ := h
  refine ⟨h1, x', d, (Ext.fr k).trans f, (k.mono hB).trans b, fun y hy => ?_⟩
  rcases q y hy with h2 | h2
  · exact .inl h2
  · exact .inr (Nat.le_trans k.size h2)
theorem doP_done {s : PS} {er : Nat} {act : PS → PS} (h1 : s.down = false) (h2 : er = 0) (h3 : s.fuse ≠ 0) : (doP s er act).2 = act (fusS s) := by
  unfold doP fusS
  rw [h1, h2, if_neg h3]; rfl
set_option maxHeartbeats 1000000 in
theorem dcreate_any {B : Nat} {w : World} {p : Nat} {x : DX} {s : PS} (n : Nm) (hk : n.length ≤ maxLen) (h : Dk B w p x s) (hB : B ≤ w.heap.size) (hg : Gd (creP s n).2) (hl : s.opn.length ≤ 100000) :
    Calls Tryd.prog 16 #[pv p, vN n] w fun e w' => DoR B w p x (creP s n) e w' := by
  have E1 : Ext w (w.alloc (.cells #[pv p] 35 (0, 0))) := Ext.alloc _ _
  have b1 := Bx.new w (pv p) 35
  have E2 := E1.trans (Ext.alloc (w.alloc (.cells #[pv p] 35 (0, 0))) (.cells #[vN n] 9 (0, 0)))
  have b2 := Bx.new (w.alloc (.cells #[pv p] 35 (0, 0))) (vN n) 9
  have b1' := b1.ext (Ext.alloc (w.alloc (.cells #[pv p] 35 (0, 0))) (.cells #[vN n] 9 (0, 0)))
  have c1 := b1'.cell
  rw [World.size_alloc] at b2
  have HB1 := hid b1'
  have HB2 := hid b2
  have HE := hid E2
  have H := hid (h.ext E2)
  have HG := hid hg
  have HB := hid hB
  clear E1 E2 b1 b2 b1' h hg
  go_enter Tryd.func16, Tryd.ntmps16
  go_wp2_with fail
  obtain ⟨W0, hW0⟩ : ∃ W0, (w.alloc (.cells #[pv p] 35 (0, 0))).alloc (.cells #[vN n] 9 (0, 0)) = W0 := ⟨_, rfl⟩
  rw [hW0] at HB1 HB2 HE H c1 ⊢
  have hp := (Array.getElem?_eq_some_iff.1 H.out.hd).1
  have hpw : p ≠ w.heap.size ∧ p ≠ w.heap.size + 1 := ⟨fun e => by
    have := HB1.out; rw [← e] at this; have h2 := H.out.hd; unfold Bx at this; rw [this] at h2; simp at h2, fun e => by
    have := HB2.out; rw [← e] at this; have h2 := H.out.hd; unfold Bx at this; rw [this] at h2; simp at h2⟩
  obtain ⟨a, ha⟩ : ∃ a, w.heap.size = a := ⟨_, rfl⟩
  obtain ⟨b, hb⟩ : ∃ b, a + 1 = b := ⟨_, rfl⟩
  rw [ha] at HB1 HB2 hpw c1 ⊢
  rw [hb] at HB2 hpw ⊢
  have HPW := hid hpw
  clear hW0 hb c1
  refine (ddo_any H.out (Nat.le_trans HB.out HE.out.size) 22 24 _ _ enter47 enter49 (creE s n) (fun s => { s with files := s.files ++ [([], 0)], opn := s.opn ++ [⟨[], n, some s.files.length⟩] })
    (fun _ w' k => cre1_any n hk (H.out.ext k) a b (HB1.out.ext k) (HB2.out.ext k))
    (fun h1 h2 h3 w' hD hF hbl => cre2_any n hk hD a b (HB1.out.fr hF (by simpa using Ne.symm HPW.out.1)) (HB2.out.fr hF (by simpa using Ne.symm HPW.out.2)) (Nat.le_trans (Nat.le_trans HB.out HE.out.size) hF.size) (by have := HG.out; unfold creP at this; rw [doP_done h1 h2 h3] at this; exact this) hl)).mono ?_
  rintro e w2 ⟨rfl, h2⟩
  have HS : Hid (DoR B w p x (creP s n) _ w2) := hid (DoR.ext ⟨rfl, h2⟩ HE.out HB.out)
  clear h2
  go_wp2
  go_ret
  exact HS.out
end Go.Proofs.YtekjflndblgegaaDoor
