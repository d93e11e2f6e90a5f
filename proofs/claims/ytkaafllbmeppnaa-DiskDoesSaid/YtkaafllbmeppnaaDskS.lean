/- A file's bytes turn; Append. -/
import Derived.Test.YtkaafllbmeppnaaDskR
set_option linter.unusedSimpArgs false
set_option linter.unusedVariables false
namespace Go.Proofs.Ytkaafllbmeppnaa
open Go Go.RowKit Go.Tum Go.ChangeMaps
open Go.ParB (upd Lof)
open Go.ParE (putS slotsR slots Closed)

def DX.setV (x : DX) (f : Nat) (v : Value) : DX := { x with bl := x.bl.set f (x.bk f, v) }
theorem setV_bk {x : DX} {f i : Nat} {v : Value} : (x.setV f v).bk i = x.bk i := by
  unfold DX.setV DX.bk
  simp only [List.getD_eq_getElem?_getD, List.getElem?_set]
  split
  · rename_i e
    subst e
    split
    · rfl
    · rename_i h
      rw [List.getElem?_eq_none (by omega)]
  · rfl
theorem setV_sv {x : DX} {f i : Nat} {v : Value} (h : f < x.bl.length) : (x.setV f v).sv i = if i = f then v else x.sv i := by
  unfold DX.setV DX.sv
  simp only [List.getD_eq_getElem?_getD, List.getElem?_set]
  by_cases e : i = f
  · subst e; simp [h]
  · rw [if_neg (Ne.symm e), if_neg e]
theorem setV_hb {x : DX} {f : Nat} {v : Value} (d : Dir) : (x.setV f v).hb d = x.hb d := by
  unfold DX.hb
  refine List.map_congr_left fun z _ => ?_
  rw [setV_bk]
theorem setV_cc {x : DX} {f : Nat} {v : Value} (l : List Chg) : l.flatMap (x.setV f v).cc = l.flatMap x.cc := by
  induction l with
  | nil => rfl
  | cons c r ih =>
    rw [List.flatMap_cons, List.flatMap_cons, ih]
    congr 1
    unfold DX.cc
    cases c.file with
    | none => rfl
    | some g => simp only [Option.map_some]; rw [setV_bk]
theorem setV_fst {x : DX} {f : Nat} {v : Value} (h : f < x.bl.length) : (x.setV f v).bl.map Prod.fst = x.bl.map Prod.fst := by
  refine List.ext_getElem (by simp [DX.setV]) fun i h1 h2 => ?_
  simp only [DX.setV, List.getElem_map, List.getElem_set]
  split
  · rename_i e; subst e
    simp [DX.bk, List.getD_eq_getElem?_getD, h]
  · rfl
theorem oB_lt {w : World} {b e s n : Nat} {v : Value} {xs : List Value} (h : w.ownsRow b e s v n xs) : ∀ q ∈ oB v, q < w.heap.size := by
  intro q hm
  rcases h.2 with ⟨hv, -⟩ | ⟨g, cap, cur, hv, hb, hgg, rest⟩
  · rw [hv] at hm; simp [oB, Value.ownBlock] at hm
  · rw [hv] at hm
    simp [oB, Value.ownBlock] at hm
    subst hm; exact (Array.getElem?_eq_some_iff.1 hgg).1
theorem oB_iff {v : Value} {q : Nat} : q ∈ oB v ↔ v.ownBlock = some q := by
  unfold oB
  cases h : v.ownBlock <;> simp [eq_comm]
section
variable {B : Nat} {w w' : World} {p : Nat} {x : DX} {s s' : PS}
theorem Dk.fileSet (h : Dk B w p x s) {f : Nat} (hf : f < s.files.length) (v : Value) (bs : List UInt8) (n : Nat) (hb : w'.heap[x.bk f]? = some (fileO v n)) (ho : Own w' B 5 v bs) (F : Fr (x.bk f :: oB (x.sv f)) w w')
    (hn : ∀ q ∈ oB v, q ∈ oB (x.sv f) ∨ w.heap.size ≤ q) (hs : s'.room = s.room ∧ s'.sure = s.sure ∧ s'.opn = s.opn ∧ s'.fuse = s.fuse ∧ s'.down = s.down) (hl : s'.files.length = s.files.length)
    (hof : ∀ i (h1 : i < s'.files.length) (h2 : i < s.files.length), s'.files[i] = if i = f then (bs, n) else s.files[i]) (hg : Gd s') : Dk B w' p (x.setV f v) s' := by
  obtain ⟨r, fl, su, o, fu, dn⟩ := s
  obtain ⟨r', fl', su', o', fu', dn'⟩ := s'
  obtain ⟨rfl, rfl, rfl, rfl, rfl⟩ := hs
  simp only at hf hl hof
  have hfx : f < x.bl.length := by rw [h.fn]; exact hf
  have hpS : p ∉ x.bk f :: oB (x.sv f) := by
    simp only [List.mem_cons, not_or]
    exact ⟨h.p_bk hf, row_no (h.fi f hf).2 h.hd (by intro cs e; simp at e)⟩
  have hmap : ∀ m, (∃ es ck, w.heap[m]? = some (.map es ck)) → m ∉ x.bk f :: oB (x.sv f) := by
    rintro m ⟨es, ck, hm⟩
    simp only [List.mem_cons, not_or]
    refine ⟨fun e => ?_, row_no (h.fi f hf).2 hm (by intro cs e; cases e)⟩
    have := (h.fi f hf).1
    rw [← e, hm] at this; cases this
  refine ⟨(F.block p (Array.getElem?_eq_some_iff.1 h.hd).1 hpS).trans h.hd, ?_, ?_, ?_, ?_, fun i hi => ?_, ?_, fun i j hi hj hij g hg2 => ?_, h.ne, ⟨h.lo.1, h.lo.2.1, h.lo.2.2.1, fun i hi => by rw [setV_bk]; exact h.lo.2.2.2 i (by rw [← hl]; exact hi)⟩, hg⟩
  · show PM w' x.md ((x.setV f v).hb _)
    rw [setV_hb]; exact h.dr.fr F (hmap _ h.dr.block)
  · show PM w' x.ms ((x.setV f v).hb _)
    rw [setV_hb]; exact h.sr.fr F (hmap _ h.sr.block)
  · show w'.ownsRow B 73 3 x.vo _ (List.flatMap (x.setV f v).cc _)
    rw [setV_cc]
    refine ownsRow_fr h.op F fun q hq hq2 => ?_
    rcases List.mem_cons.1 hq2 with rfl | hq2
    · exact h.bk_op hf hq
    · exact row_far h.op (h.fi f hf).2 (by decide) q hq hq2
  · show ((x.setV f v).bl).length = fl'.length
    rw [hl, ← h.fn]; simp [DX.setV]
  · have hi2 : i < fl.length := by rw [← hl]; exact hi
    rw [setV_bk, setV_sv hfx, hof i hi hi2]
    by_cases e : i = f
    · subst e
      rw [if_pos rfl, if_pos rfl]
      exact ⟨hb, ho⟩
    · rw [if_neg e, if_neg e]
      obtain ⟨a, b⟩ := h.fi i hi2
      refine ⟨(F.block _ (Array.getElem?_eq_some_iff.1 a).1 ?_).trans a, ownsRow_fr b F fun q hq hq2 => ?_⟩
      · simp only [List.mem_cons, not_or]
        exact ⟨h.bk_ne hi2 hf e, row_no (h.fi f hf).2 a (by intro cs e; simp at e)⟩
      · rcases List.mem_cons.1 hq2 with rfl | hq2
        · exact row_no b (h.fi f hf).1 (by intro cs e; simp at e) hq
        · exact h.od i f hi2 hf e q (oB_iff.1 hq) (oB_iff.1 hq2)
  · show ((x.setV f v).bl.map Prod.fst).Nodup
    rw [setV_fst hfx]; exact h.fd
  · have hi2 : i < fl.length := by rw [← hl]; exact hi
    have hj2 : j < fl.length := by rw [← hl]; exact hj
    rw [setV_sv hfx] at hg2 ⊢
    by_cases e1 : i = f
    · have e2 : j ≠ f := fun e => hij (e1.trans e.symm)
      rw [if_pos e1] at hg2
      rw [if_neg e2]
      intro hj3
      rcases hn g (oB_iff.2 hg2) with h1 | h1
      · exact h.od f j hf hj2 (Ne.symm e2) g (oB_iff.1 h1) hj3
      · have := oB_lt (h.fi j hj2).2 g (oB_iff.2 hj3); omega
    · rw [if_neg e1] at hg2
      by_cases e2 : j = f
      · rw [if_pos e2]
        intro hj3
        rcases hn g (oB_iff.2 hj3) with h1 | h1
        · exact h.od i f hi2 hf e1 g hg2 (oB_iff.1 h1)
        · have := oB_lt (h.fi i hi2).2 g (oB_iff.2 hg2); omega
      · rw [if_neg e2]
        exact h.od i j hi2 hj2 hij g hg2
theorem setV_blk {f : Nat} {v : Value} (hfx : f < x.bl.length) (hn : ∀ q ∈ oB v, q ∈ oB (x.sv f) ∨ w.heap.size ≤ q) : ∀ q ∈ (x.setV f v).blk p, q ∈ x.blk p ∨ w.heap.size ≤ q := by
  intro q hq
  have hfst := setV_fst (v := v) hfx
  simp only [DX.blk, List.mem_cons, List.mem_append, hfst] at hq ⊢
  rcases hq with h | h | h | (h | h) | h
  · exact .inl (.inl h)
  · exact .inl (.inr (.inl h))
  · exact .inl (.inr (.inr (.inl h)))
  · exact .inl (.inr (.inr (.inr (.inl (.inl h)))))
  · exact .inl (.inr (.inr (.inr (.inl (.inr h)))))
  · obtain ⟨z, hz, hq2⟩ := List.mem_flatMap.1 h
    have hz2 : z ∈ x.bl.set f (x.bk f, v) := hz
    rcases List.mem_or_eq_of_mem_set hz2 with h1 | h1
    · exact .inl (.inr (.inr (.inr (.inr (List.mem_flatMap.2 ⟨z, h1, hq2⟩)))))
    · subst h1
      rcases hn q hq2 with h3 | h3
      · exact .inl (.inr (.inr (.inr (.inr (List.mem_flatMap.2 ⟨_, getD_mem hfx, h3⟩)))))
      · exact .inr h3
theorem Stp.file (h : Dk B w p x s) {f : Nat} (hf : f < s.files.length) (v : Value) (hd : Dk B w' p (x.setV f v) s') (F : Fr (x.bk f :: oB (x.sv f)) w w') (hn : ∀ q ∈ oB v, q ∈ oB (x.sv f) ∨ w.heap.size ≤ q) (hB : B ≤ w.heap.size) : Stp B w p x s' w' := by
  have hfx : f < x.bl.length := by rw [h.fn]; exact hf
  refine ⟨_, hd, F.mono fun q hq => ?_, F.below (fun q hq => ?_) hB, setV_blk hfx hn⟩
  · simp only [DX.blk, List.mem_cons, List.mem_append] at hq ⊢
    rcases hq with rfl | hq
    · exact .inr (.inr (.inr (.inl (.inr (h.bk_mem hf)))))
    · exact .inr (.inr (.inr (.inr (List.mem_flatMap.2 ⟨_, getD_mem hfx, hq⟩))))
  · rcases List.mem_cons.1 hq with rfl | hq
    · exact h.lo.2.2.2 f hf
    · exact row_lo (h.fi f hf).2 q hq
end
end Go.Proofs.Ytkaafllbmeppnaa
