/- Crash. -/
import Derived.Test.YtinancnlangkjaaDoorDskMY
set_option linter.unusedSimpArgs false
set_option linter.unusedVariables false
namespace Go.Proofs.YtinancnlangkjaaDoor
open Go Go.RowKit Go.Tum Go.ChangeMaps
open Go.ParB (upd Lof)
open Go.ParE (putS slotsR slots Closed)

theorem vec_fr {w w' : World} {to : Option Addr} {tc : Nat} {ts : List Int} {S : List Nat} (h : Vec Go.Tum.iv w (.slice to ts.length tc) ts) (f : Fr S w w') (hs : ∀ a, to = some a → ts ≠ [] → a.block ∉ S) : Vec Go.Tum.iv w' (.slice to ts.length tc) ts := by
  obtain ⟨hl, ao, cap, e, h3, h4, h5, h6⟩ := h
  refine ⟨hl, ao, cap, e, h3, h4, h5, fun a ha j v hv => ?_⟩
  have hc := h6 a ha j v hv
  have hto : to = ao := by cases e; rfl
  have hb : (a.add j).block = a.block := by unfold Addr.add; split <;> rfl
  refine (f.cell (by rw [hb]; exact hs a (by rw [hto, ha]) (by rintro rfl; simp at hv)) (World.block_lt_of_cell? w _ hc)).trans hc
theorem bk_congr {x : DX} {bl : List (Nat × Value)} (h : bl.map Prod.fst = x.bl.map Prod.fst) (i : Nat) : (DX.mk x.md x.ms x.vo bl).bk i = x.bk i := by
  have hl : bl.length = x.bl.length := by have := congrArg List.length h; simpa using this
  unfold DX.bk
  simp only [List.getD_eq_getElem?_getD]
  by_cases hi : i < bl.length
  · have e : (bl.map Prod.fst)[i]? = (x.bl.map Prod.fst)[i]? := by rw [h]
    rw [List.getElem?_map, List.getElem?_map, List.getElem?_eq_getElem hi, List.getElem?_eq_getElem (by omega)] at e
    rw [List.getElem?_eq_getElem hi, List.getElem?_eq_getElem (show i < x.bl.length by omega)]
    simpa using e
  · rw [List.getElem?_eq_none (by omega), List.getElem?_eq_none (by omega)]
theorem hb_congr {x : DX} {m m2 : Nat} {v : Value} {bl : List (Nat × Value)} (h : bl.map Prod.fst = x.bl.map Prod.fst) (d : Dir) : (DX.mk m m2 v bl).hb d = x.hb d := by
  unfold DX.hb
  refine List.map_congr_left fun z _ => ?_
  rw [show (DX.mk m m2 v bl).bk z.2 = (DX.mk x.md x.ms x.vo bl).bk z.2 from rfl, bk_congr h]
theorem Fls.re {B : Nat} {w : World} {bl : List (Nat × Value)} {fs : List (List UInt8 × Nat)} {m m2 m3 m4 : Nat} {v v2 : Value} (h : Fls B w ⟨m, m2, v, bl⟩ fs) : Fls B w ⟨m3, m4, v2, bl⟩ fs := ⟨h.fn, h.fi, h.fd, h.od, h.lo, h.sz⟩
theorem ptr_shape (b : Option Nat) : ∃ ov, ptr b = .pointer ov := by cases b <;> exact ⟨_, rfl⟩
theorem dirAt_step {d : Dir} {l : List Chg} {j : Nat} (h : j < l.length) : dirAt d (l.take (j + 1)) = appC (dirAt d (l.take j)) l[j] := by
  unfold dirAt
  rw [List.take_succ_eq_append_getElem h, List.foldl_append]; rfl
theorem crA_append : ∀ (a : Dir) (z : Nm × Nat) (ts : List Int) (fs : List (List UInt8 × Nat)), crA (a ++ [z]) ts fs = (crA a ts fs).modify z.2 (crF (ts.getD a.length 0))
  | [], z, ts, fs => by
    simp only [List.nil_append, crA, List.length_nil]
    cases ts <;> rfl
  | y :: a, z, ts, fs => by
    simp only [List.cons_append, crA, List.length_cons]
    rw [crA_append a z ts.tail]
    congr 2
    cases ts with
    | nil => simp
    | cons b r => simp
theorem crA_step {d : Dir} {ts : List Int} {fs : List (List UInt8 × Nat)} {j : Nat} (h : j < d.length) : crA (d.take (j + 1)) ts fs = (crA (d.take j) ts fs).modify d[j].2 (crF (ts.getD j 0)) := by
  rw [List.take_succ_eq_append_getElem h, crA_append, List.length_take, Nat.min_eq_left (Nat.le_of_lt h)]
theorem crA_len : ∀ (d : Dir) (ts : List Int) (fs : List (List UInt8 × Nat)), (crA d ts fs).length = fs.length
  | [], ts, fs => rfl
  | z :: r, ts, fs => by simp only [crA]; rw [crA_len r]; simp
abbrev diskCells (x : DX) (s : PS) : Array Value := #[.int .i64 (s.room : Int), .map (some x.md), .map (some x.ms), x.vo, .int .i64 s.fuse, .bool s.down]
theorem Dk.ms_obj {B : Nat} {w : World} {p : Nat} {x : DX} {s : PS} (h : Dk B w p x s) : ∃ es ck, w.heap[x.ms]? = some (.map es ck) := h.sr.block
theorem bl_set {x : DX} {bl : List (Nat × Value)} {f : Nat} {v : Value} (h : bl.map Prod.fst = x.bl.map Prod.fst ∧ ∀ q ∈ bl.flatMap (fun z => oB z.2), q ∈ x.bl.flatMap fun z => oB z.2) (hf : f < bl.length) (ho : oB v = oB ((DX.mk x.md x.ms x.vo bl).sv f)) :
    ((DX.mk x.md x.ms x.vo bl).setV f v).bl.map Prod.fst = x.bl.map Prod.fst ∧ ∀ q ∈ ((DX.mk x.md x.ms x.vo bl).setV f v).bl.flatMap (fun z => oB z.2), q ∈ x.bl.flatMap fun z => oB z.2 := by
  refine ⟨by rw [setV_fst hf]; exact h.1, fun q hq => ?_⟩
  obtain ⟨z, hz, hq2⟩ := List.mem_flatMap.1 hq
  have hz2 : z ∈ bl.set f ((DX.mk x.md x.ms x.vo bl).bk f, v) := hz
  rcases List.mem_or_eq_of_mem_set hz2 with h1 | h1
  · exact h.2 q (List.mem_flatMap.2 ⟨z, h1, hq2⟩)
  · subst h1
    rw [ho] at hq2
    exact h.2 q (List.mem_flatMap.2 ⟨_, getD_mem hf, hq2⟩)
theorem crash_block {w : World} {p : Nat} {x : DX} {s : PS} {k : Int} {ts : List Int} {bl : List (Nat × Value)} (h : w.heap[p]? = some (diskO x s)) (m : Nat) :
    (((((w.setCell ⟨p, 1, none⟩ (.map (some x.ms))).setCell ⟨p, 2, none⟩ (.map (some m))).setCell ⟨p, 3, none⟩ (.slice none 0 0)).setCell ⟨p, 4, none⟩ (.int .i64 (-1))).setCell ⟨p, 5, none⟩ (.bool false)).heap[p]? = some (diskO ⟨x.ms, m, .slice none 0 0, bl⟩ (crP s k ts)) := by
  have e : (crP s k ts).room = s.room ∧ (crP s k ts).fuse = -1 ∧ (crP s k ts).down = false := ⟨rfl, rfl, rfl⟩
  have := block_set6 (block_set6 (block_set6 (block_set6 (block_set6 h 1 (.map (some x.ms))) 2 (.map (some m))) 3 (.slice none 0 0)) 4 (.int .i64 (-1))) 5 (.bool false)
  rw [this]
  unfold diskO
  rw [e.1, e.2.1, e.2.2]
  simp
theorem crash_end {B : Nat} {w wz Wa WF : World} {p m : Nat} {x : DX} {s : PS} {k : Int} {ts : List Int} {d : Dir} {bl : List (Nat × Value)} (H : Dk B w p x s) (hg : Gd (crP s k ts)) (hB : B ≤ w.heap.size) (hd : dirAt s.sure (s.opn.take k.toNat) = d)
    (hf : Fls B wz ⟨x.md, x.ms, x.vo, bl⟩ (crA d ts s.files)) (hbl : bl.map Prod.fst = x.bl.map Prod.fst ∧ ∀ q ∈ bl.flatMap (fun z => oB z.2), q ∈ x.bl.flatMap fun z => oB z.2) (hm : PM wz x.ms (x.hb d)) (f1 : Fr (x.ms :: x.bl.map Prod.fst) w wz) (f2 : Fr [p] wz WF) (f3 : Fr [p] Wa WF)
    (hp : WF.heap[p]? = some (diskO ⟨x.ms, m, .slice none 0 0, bl⟩ (crP s k ts))) (hc : PM Wa m (x.hb d)) (hms : wz.heap.size ≤ m) : Stp B w p x (crP s k ts) WF := by
  have hcr : crP s k ts = { s with files := crA d ts s.files, sure := d, opn := [], fuse := -1, down := false } := by unfold crP; simp only [hd]
  have hpw := (Array.getElem?_eq_some_iff.1 H.hd).1
  have hpz : p < wz.heap.size := Nat.lt_of_lt_of_le hpw f1.size
  have hpm : p ≠ m := by omega
  have hpbl : ∀ q ∈ x.bl.map Prod.fst, q ≠ p := fun q hq e => by
    obtain ⟨i, hi, e2⟩ := List.mem_iff_getElem.1 hq
    have hi2 : i < s.files.length := by rw [← H.fn]; simpa using hi
    have h1 := (H.fi i hi2).1
    have e3 : x.bk i = q := by rw [← e2]; simp [DX.bk, List.getD_eq_getElem?_getD, show i < x.bl.length by simpa using hi]
    rw [e3, e, H.hd] at h1
    simp at h1
  have hpnot : p ∉ x.ms :: x.bl.map Prod.fst := by
    simp only [List.mem_cons, not_or]
    exact ⟨H.p_ms, fun h => hpbl p h rfl⟩
  have hbz := (f1.block p hpw hpnot).trans H.hd
  have hF : Fls B WF ⟨x.md, x.ms, x.vo, bl⟩ (crA d ts s.files) := hf.fr f2 (fun q hq => by
    obtain rfl : q = p := by simpa using hq
    exact ⟨_, hbz, (by intro cs e; simp at e), (by intro cs e; simp at e)⟩)
  have hbkc : ∀ i, (DX.mk x.ms m (.slice none 0 0) bl).bk i = x.bk i := fun i => bk_congr hbl.1 i
  refine ⟨⟨x.ms, m, .slice none 0 0, bl⟩, ⟨hp, ?_, ?_, ?_, ?_, ?_, hF.fd, ?_, ?_, ⟨H.lo.1, H.lo.2.2.1, ?_, ?_⟩, hg⟩, ?_, ?_, ?_⟩
  · rw [hb_congr hbl.1]
    have : (crP s k ts).dir = d := by rw [hcr]; rfl
    rw [this]
    exact hm.fr f2 (by simpa using H.p_ms.symm)
  · rw [hb_congr hbl.1]
    have : (crP s k ts).sure = d := by rw [hcr]
    rw [this]
    exact hc.fr f3 (by simpa using Ne.symm hpm)
  · have : (crP s k ts).opn = [] := by rw [hcr]
    rw [this]; exact World.ownsRow_nil _ _ _ _
  · rw [hcr]; exact hF.fn
  · rw [hcr]; exact hF.fi
  · rw [hcr]; exact hF.od
  · show x.ms ≠ m
    obtain ⟨es, ck, hb⟩ := hm.block
    have := (Array.getElem?_eq_some_iff.1 hb).1
    omega
  · show B ≤ m
    have := f1.size; omega
  · intro i hi
    rw [hbkc]
    refine H.lo.2.2.2 i ?_
    rw [hcr] at hi
    have : i < (crA d ts s.files).length := hi
    rwa [crA_len] at this
  · refine ⟨f2.os.trans f1.os, f2.tape.trans f1.tape, f2.output.trans f1.output, Nat.le_trans f1.size f2.size, fun j hj hn => ?_⟩
    have h1 : j ∉ x.ms :: x.bl.map Prod.fst := fun hm => hn (by
      simp only [DX.blk, List.mem_cons, List.mem_append] at hm ⊢
      rcases hm with h | h
      · exact .inr (.inr (.inl h))
      · exact .inr (.inr (.inr (.inl (.inr h)))))
    have h2 : j ∉ [p] := fun hm => hn (by obtain rfl : j = p := (by simpa using hm); simp [DX.blk])
    exact (f2.block j (Nat.lt_of_lt_of_le hj f1.size) h2).trans (f1.block j hj h1)
  · have b1 := f1.below (B := B) (fun q hq => by
      rcases List.mem_cons.1 hq with rfl | hq
      · exact H.lo.2.2.1
      · obtain ⟨i, hi, e2⟩ := List.mem_iff_getElem.1 hq
        have hi2 : i < s.files.length := by rw [← H.fn]; simpa using hi
        have e3 : x.bk i = q := by rw [← e2]; simp [DX.bk, List.getD_eq_getElem?_getD, show i < x.bl.length by simpa using hi]
        rw [← e3]; exact H.lo.2.2.2 i hi2) hB
    exact b1.trans (f2.below (by intro q hq; obtain rfl : q = p := (by simpa using hq); exact H.lo.1) (Nat.le_trans hB f1.size))
  · intro q hq
    have hm2 : w.heap.size ≤ m := Nat.le_trans f1.size hms
    simp only [DX.blk, List.mem_cons, List.mem_append, hbl.1] at hq ⊢
    rcases hq with h | h | h | (h | h) | h
    · exact .inl (.inl h)
    · exact .inl (.inr (.inr (.inl h)))
    · exact .inr (by omega)
    · simp [oB, Value.ownBlock] at h
    · exact .inl (.inr (.inr (.inr (.inl (.inr h)))))
    · exact .inl (.inr (.inr (.inr (.inr (hbl.2 q h)))))
end Go.Proofs.YtinancnlangkjaaDoor

