/- Crash. -/
import Derived.Test.YtijpokajhjhllaaGreatDoorDskMY
set_option linter.unusedSimpArgs false
set_option linter.unusedVariables false
namespace Go.Proofs.YtijpokajhjhllaaGreatDoor
open Go Go.RowKit Go.Tum Go.ChangeMaps
open Go.ParB (upd Lof)
open Go.ParE (putS slotsR slots Closed)

theorem vec_fr {w w' : World} {to : Option Addr} {tc : Nat} {ts : List Int} {S : List Nat} (h : Vec Go.Tum.iv w (.slice to ts.length tc) ts) (f : Fr S w w') (hs : ∀ a, to = some a → ts ≠ [] → a.block ∉ S) : Vec Go.Tum.iv w' (.slice to ts.length tc) ts := by
  obtain ⟨hl, ao, cap, e, h3, h4, h5, h6⟩ := h
  refine ⟨hl, ao, cap, e, h3, h4, h5, fun a ha j v hv => ?_⟩
  have hc := h6 a ha j v hv
  have hto : to = ao := by cases e; rfl
  have hb : (a.add j).block = a.block := by unfold Addr.add; split <;> rfl
  refine (f.cell (by rw [hb]; exact hs a (by rw [hto, ha]) (by rintro rfl; simp at hv)) (World.block_lt_of_cell? w _ hc)).trans hc
theorem bk_congr {x : DX} {bl : List (Nat × Value)} (h : bl.map Prod.fst = x.bl.map Prod.fst) (i : Nat) : (DX.mk x.md x.ms x.vo bl).bk i = x.bk i := by
  have hl : bl.length = x.bl.length := by have := congrArg List.length h; simpa using this
  unfold DX.bk
  simp only [List.getD_eq_getElem?_getD]
  by_cases hi : i < bl.length
  · have e : (bl.map Prod.fst)[i]? = (x.bl.map Prod.fst)[i]? := by rw [h]
    rw [List.getElem?_map, List.getElem?_map, List.getElem?_eq_getElem hi, List.getElem?_eq_getElem (by omega)] at e
    rw [List.getElem?_eq_getElem hi, List.getElem?_eq_getElem (show i < x.bl.length by omega)]
    simpa using e
  · rw [List.getElem?_eq_none (by omega), List.getElem?_eq_none (by omega)]
theorem hb_congr {x : DX} {m m2 : Nat} {v : Value} {bl : List (Nat × Value)} (h : bl.map Prod.fst = x.bl.map Prod.fst) (d : Dir) : (DX.mk m m2 v bl).hb d = x.hb d := by
  unfold DX.hb
  refine List.map_congr_left fun z _ => ?_
  rw [show (DX.mk m m2 v bl).bk z.2 = (DX.mk x.md x.ms x.vo bl).bk z.2 from rfl, bk_congr h]
theorem Fls.re {B : Nat} {w : World} {bl : List (Nat × Value)} {fs : List (List UInt8 × Nat)} {m m2 m3 m4 : Nat} {v v2 : Value} (h : Fls B w ⟨m, m2, v, bl⟩ fs) : Fls B w ⟨m3, m4, v2, bl⟩ fs := ⟨h.fn, h.fi, h.fd, h.od, h.lo, h.sz⟩
theorem ptr_shape (b : Option Nat) : ∃ ov, ptr b = .pointer ov := by cases b <;> exact ⟨_, rfl⟩
theorem dirAt_step {d : Dir} {l : List Chg} {j : Nat} (h : j < l.length) : dirAt d (l.take (j + 1)) = appC (dirAt d (l.take j)) l[j] := by
  unfold dirAt
  rw [List.take_succ_eq_append_getElem h, List.foldl_append]; rfl
theorem crA_append : ∀ (a : Dir) (z : Nm × Nat) (ts : List Int) (fs : List (List UInt8 × Nat)), crA (a ++ [z]) ts fs = (crA a ts fs).modify z.2 (crF (ts.getD a.length 0))
  | [], z, ts, fs => by
    simp only [List.nil_append, crA, List.length_nil]
    cases ts <;> rfl
  | y :: a, z, ts, fs => by
    simp only [List.cons_append, crA, List.length_cons]
    rw [crA_append a z ts.tail]
    congr 2
    cases ts with
    | nil => simp
    | cons b r => simp
theorem crA_step {d : Dir} {ts : List Int} {fs : List (List UInt8 × Nat)} {j : Nat} (h : j < d.length) : crA (d.take (j + 1)) ts fs = (crA (d.take j) ts fs).modify d[j].2 (crF (ts.getD j 0)) := by
  rw [List.take_succ_eq_append_getElem h, crA_append, List.length_take, Nat.min_eq_left (Nat.le_of_lt h)]
theorem crA_len : ∀ (d : Dir) (ts : List Int) (fs : List (List UInt8 × Nat)), (crA d ts fs).length = fs.length
  | [], ts, fs => rfl
  | z :: r, ts, fs => by simp only [crA]; rw [crA_len r]; simp
abbrev diskCells (x : DX) (s : PS) : Array Value := #[.int .i64 (s.room : Int), .map (some x.md), .map (some x.ms), x.vo, .int .i64 s.fuse, .bool s.down]
theorem Dk.ms_obj {B : Nat} {w : World} {p : Nat} {x : DX} {s : PS} (h : Dk B w p x s) : ∃ es ck, w.heap[x.ms]? = some (.map es ck) := h.sr.block
theorem bl_set {x : DX} {bl : List (Nat × Value)} {f : Nat} {v : Value} (h : bl.map Prod.fst = x.bl.map Prod.fst ∧ ∀ q ∈ bl.flatMap (fun z => oB z.2), q ∈ x.bl.flatMap fun z => oB z.2) (hf : f < bl.length) (ho : oB v = oB ((DX.mk x.md x.ms x.vo bl).sv f)) :
    ((DX.mk x.md x.ms x.vo bl).setV f v).bl.map Prod.fst = x.bl.map Prod.fst ∧ ∀ q ∈ ((DX.mk x.md x.ms x.vo bl).setV f v).bl.flatMap (fun z => oB z.2), q ∈ x.bl.flatMap fun z => oB z.2 := by
  refine ⟨by rw [setV_fst hf]; exact h.1, fun q hq => ?_⟩
  obtain ⟨z, hz, hq2⟩ := List.mem_flatMap.1 hq
  have hz2 : z ∈ bl.set f ((DX.mk x.md x.ms x.vo bl).bk f, v) := hz
  rcases List.mem_or_eq_of_mem_set hz2 with h1 | h1
  · exact h.2 q (List.mem_flatMap.2 ⟨z, h1, hq2⟩)
  · subst h1
    rw [ho] at hq2
    exact h.2 q (List.mem_flatMap.2 ⟨_, getD_mem hf, hq2⟩)
theorem crash_block {w : World} {p : Nat} {x : DX} {s : PS} {k : Int} {ts : List Int} {bl : List (Nat × Value)} (h : w.heap[p]? = some (diskO x s)) (m : Nat) :
    (((((w.setCell ⟨p, 1, none⟩ (.map (some x.ms))).setCell ⟨p, 2, none⟩ (.map (some m))).setCell ⟨p, 3, none⟩ (.slice none 0 0)).setCell ⟨p, 4, none⟩ (.int .i64 (-1))).setCell ⟨p, 5, none⟩ (.bool false)).heap[p]? = some (diskO ⟨x.ms, m, .slice none 0 0, bl⟩ (crP s k ts)) := by
  have e : (crP s k ts).room = s.room ∧ (crP s k ts).fuse = -1 ∧ (crP s k ts).down = false := ⟨rfl, rfl, rfl⟩
  have := block_set6 (block_set6 (block_set6 (block_set6 (block_set6 h 1 (.map (some x.ms))) 2 (.map (some m))) 3 (.slice none 0 0)) 4 (.int .i64 (-1))) 5 (.bool false)
  rw [this]
  unfold diskO
  rw [e.1, e.2.1, e.2.2]
  simp
theorem crash_end {B : Nat} {w wz Wa WF : World} {p m : Nat} {x : DX} {s : PS} {k : Int} {ts : List Int} {d : Dir} {bl : List (Nat × Value)} (H : Dk B w p x s) (hg : Gd (crP s k ts)) (hB : B ≤ w.heap.size) (hd : dirAt s.sure (s.opn.take k.toNat) = d)
    (hf : Fls B wz ⟨x.md, x.ms, x.vo, bl⟩ (crA d ts s.files)) (hbl : bl.map Prod.fst = x.bl.map Prod.fst ∧ ∀ q ∈ bl.flatMap (fun z => oB z.2), q ∈ x.bl.flatMap fun z => oB z.2) (hm : PM wz x.ms (x.hb d)) (f1 : Fr (x.ms :: x.bl.map Prod.fst) w wz) (f2 : Fr [p] wz WF) (f3 : Fr [p] Wa WF)
    (hp : WF.heap[p]? = some (diskO ⟨x.ms, m, .slice none 0 0, bl⟩ (crP s k ts))) (hc : PM Wa m (x.hb d)) (hms : wz.heap.size ≤ m) : Stp B w p x (crP s k ts) WF := by
  have hcr : crP s k ts = { s with files := crA d ts s.files, sure := d, opn := [], fuse := -1, down := false } := by unfold crP; simp only [hd]
  have hpw := (Array.getElem?_eq_some_iff.1 H.hd).1
  have hpz : p < wz.heap.size := Nat.lt_of_lt_of_le hpw f1.size
  have hpm : p ≠ m := by omega
  have hpbl : ∀ q ∈ x.bl.map Prod.fst, q ≠ p := fun q hq e => by
    obtain ⟨i, hi, e2⟩ := List.mem_iff_getElem.1 hq
    have hi2 : i < s.files.length := by rw [← H.fn]; simpa using hi
    have h1 := (H.fi i hi2).1
    have e3 : x.bk i = q := by rw [← e2]; simp [DX.bk, List.getD_eq_getElem?_getD, show i < x.bl.length by simpa using hi]
    rw [e3, e, H.hd] at h1
    simp at h1
  have hpnot : p ∉ x.ms :: x.bl.map Prod.fst := by
    simp only [List.mem_cons, not_or]
    exact ⟨H.p_ms, fun h => hpbl p h rfl⟩
  have hbz := (f1.block p hpw hpnot).trans H.hd
  have hF : Fls B WF ⟨x.md, x.ms, x.vo, bl⟩ (crA d ts s.files) := hf.fr f2 (fun q hq => by
    obtain rfl : q = p := by simpa using hq
    exact ⟨_, hbz, (by intro cs e; simp at e), (by intro cs e; simp at e)⟩)
  have hbkc : ∀ i, (DX.mk x.ms m (.slice none 0 0) bl).bk i = x.bk i := fun i => bk_congr hbl.1 i
  refine ⟨⟨x.ms, m, .slice none 0 0, bl⟩, ⟨hp, ?_, ?_, ?_, ?_, ?_, hF.fd, ?_, ?_, ⟨H.lo.1, H.lo.2.2.1, ?_, ?_⟩, hg⟩, ?_, ?_, ?_⟩
  · rw [hb_congr hbl.1]
    have : (crP s k ts).dir = d := by rw [hcr]; rfl
    rw [this]
    exact hm.fr f2 (by simpa using H.p_ms.symm)
  · rw [hb_congr hbl.1]
    have : (crP s k ts).sure = d := by rw [hcr]
    rw [this]
    exact hc.fr f3 (by simpa using Ne.symm hpm)
  · have : (crP s k ts).opn = [] := by rw [hcr]
    rw [this]; exact World.ownsRow_nil _ _ _ _
  · rw [hcr]; exact hF.fn
  · rw [hcr]; exact hF.fi
  · rw [hcr]; exact hF.od
  · show x.ms ≠ m
    obtain ⟨es, ck, hb⟩ := hm.block
    have := (Array.getElem?_eq_some_iff.1 hb).1
    omega
  · show B ≤ m
    have := f1.size; omega
  · intro i hi
    rw [hbkc]
    refine H.lo.2.2.2 i ?_
    rw [hcr] at hi
    have : i < (crA d ts s.files).length := hi
    rwa [crA_len] at this
  · refine ⟨f2.os.trans f1.os, f2.tape.trans f1.tape, f2.output.trans f1.output, Nat.le_trans f1.size f2.size, fun j hj hn => ?_⟩
    have h1 : j ∉ x.ms :: x.bl.map Prod.fst := fun hm => hn (by
      simp only [DX.blk, List.mem_cons, List.mem_append] at hm ⊢
      rcases hm with h | h
      · exact .inr (.inr (.inl h))
      · exact .inr (.inr (.inr (.inl (.inr h)))))
    have h2 : j ∉ [p] := fun hm => hn (by obtain rfl : j = p := (by simpa using hm); simp [DX.blk])
    exact (f2.block j (Nat.lt_of_lt_of_le hj f1.size) h2).trans (f1.block j hj h1)
  · have b1 := f1.below (B := B) (fun q hq => by
      rcases List.mem_cons.1 hq with rfl | hq
      · exact H.lo.2.2.1
      · obtain ⟨i, hi, e2⟩ := List.mem_iff_getElem.1 hq
        have hi2 : i < s.files.length := by rw [← H.fn]; simpa using hi
        have e3 : x.bk i = q := by rw [← e2]; simp [DX.bk, List.getD_eq_getElem?_getD, show i < x.bl.length by simpa using hi]
        rw [← e3]; exact H.lo.2.2.2 i hi2) hB
    exact b1.trans (f2.below (by intro q hq; obtain rfl : q = p := (by simpa using hq); exact H.lo.1) (Nat.le_trans hB f1.size))
  · intro q hq
    have hm2 : w.heap.size ≤ m := Nat.le_trans f1.size hms
    simp only [DX.blk, List.mem_cons, List.mem_append, hbl.1] at hq ⊢
    rcases hq with h | h | h | (h | h) | h
    · exact .inl (.inl h)
    · exact .inl (.inr (.inr (.inl h)))
    · exact .inr (by omega)
    · simp [oB, Value.ownBlock] at h
    · exact .inl (.inr (.inr (.inr (.inl (.inr h)))))
    · exact .inl (.inr (.inr (.inr (.inr (hbl.2 q h)))))
set_option maxRecDepth 100000 in
set_option maxHeartbeats 2000000 in
theorem dcrashA_any {B : Nat} {w : World} {p : Nat} {x : DX} {s : PS} (k : Int) (ts : List Int) (to : Option Addr) (tc : Nat) (h : Dk B w p x s) (hB : B ≤ w.heap.size) (hv : Vec Go.Tum.iv w (.slice to ts.length tc) ts) (hto : ∀ a, to = some a → ts ≠ [] → a.block ∉ x.blk p)
    (hts : ∀ t ∈ ts, -9223372036854775808 ≤ t ∧ t ≤ 9223372036854775807) (hg : Gd (crP s k ts)) (hcase : s.opn.length ≤ k.toNat) :
    Calls Tryz.prog 14 #[pv p, .int .i64 k, .slice to ts.length tc] w fun e w' => (∃ u, e = .returned u) ∧ Stp B w p x (crP s k ts) w' := by
  have H := hid h
  have HG := hid hg
  have HB := hid hB
  have HV := hid hv
  have HTO := hid hto
  have HTS := hid hts
  obtain ⟨⟨-, -, c2, c3, -, -⟩, -⟩ := lk6 h.hd
  have hro : RowsOf w 3 x.vo x.cc s.opn := ⟨fun _ _ => rfl, Sl.of_owns h.op⟩
  obtain ⟨vo, vcap, hvo, hle, hmm, hnn, hcell⟩ := hro.open
  have HC := hid hcell
  have HNN := hid hnn
  rw [hvo] at c3
  have HVB : Hid (∀ a, vo = some a → a.block ≠ x.ms) := hid (fun a ha e => by
    obtain ⟨es, ck, hb⟩ := h.sr.block
    rcases h.op.2 with ⟨e1, e2⟩ | ⟨g, cap, cur, e1, e2, e3, -⟩
    · rw [hvo] at e1; simp only [Value.slice.injEq] at e1; rw [e1.1] at ha; cases ha
    · rw [hvo] at e1; simp only [Value.slice.injEq] at e1; rw [e1.1] at ha; cases ha
      simp only at e
      rw [e, hb] at e3; cases e3)
  have HSR := hid h.sr
  clear h hg hB hv hto hts hro hcell hnn hvo
  go_enter Tryz.func14, Tryz.ntmps14
  go_wp2
  go_loopw [21] (fun iv wr => ∃ j : Nat, j ≤ s.opn.length ∧ iv = .int .i64 j ∧ Hid (j ≤ k.toNat) ∧ Hid (PM wr x.ms (x.hb (dirAt s.sure (s.opn.take j)))) ∧ Hid (Fr [x.ms] w wr)) (fun iv _ => s.opn.length - (intOf iv).toNat)
  case atStart => exact ⟨0, by omega, rfl, hid (by omega), HSR, hid (Fr.refl _ _)⟩
  case round =>
    obtain ⟨j, hj, rfl, HJK, HPM, HF⟩ := hrel
    by_cases hlt : j < s.opn.length
    · obtain ⟨g, rfl⟩ := HNN.out (by omega)
      have hcl : ∀ i u, (x.cc s.opn[j])[i]? = some u → wr.cell? (g.add (j * 3 + i)) = some u := fun i u hu => by
        have hc := HC.out g rfl j hlt i u hu
        have hb : (g.add (j * 3 + i)).block = g.block := by unfold Addr.add; split <;> rfl
        exact (HF.out.cell (by rw [hb]; simpa using HVB.out g rfl) (World.block_lt_of_cell? w _ hc)).trans hc
      have m0 := cell_first (hcl 0 _ rfl)
      have m1 := cell_next (hcl 1 _ rfl) (by decide)
      have m2 := cell_next (hcl 2 _ rfl) (by decide)
      have hi1 : decide ((j : Int) < s.opn.length) = true := by simp; omega
      have hop := H.out.gd.op s.opn[j] (List.getElem_mem hlt)
      have hst := dirAt_step (d := s.sure) hlt
      obtain ⟨ov, hov⟩ := ptr_shape (s.opn[j].file.map x.bk)
      have hcall := dapp_any (wr.alloc (.cells #[vN s.opn[j].frm, vN s.opn[j].to, ptr (s.opn[j].file.map x.bk)] 93 (0, 0))) x.ms (x.hb (dirAt s.sure (s.opn.take j))) ⟨s.opn[j].frm, s.opn[j].to, s.opn[j].file.map x.bk⟩ (HPM.out.ext (Ext.alloc _ _)) (hb_sorted (H.out.gd.ds j)) (by rw [hb_len]; have := H.out.gd.dk j; omega) (by simp [maxLen]; omega) (by simp [maxLen]; omega)
      unfold ApP at hcall
      rw [← hb_app, ← hst] at hcall
      simp only [hov] at hcall
      rw [hov] at m2
      have HCALL := hid hcall
      clear hcall hst hov hop hcl
      generalize s.opn[j].frm = nf at *
      generalize s.opn[j].to = nt at *
      by_cases hge : k ≤ (j : Int)
      · have g1 : decide ((j : Int) ≥ k) = true := by simpa using hge
        have HJ : Hid (j = k.toNat) := hid (by have := HJK.out; omega)
        have HPM2 : Hid (PM (wr.alloc (.cells #[vN nf, vN nt, .pointer ov] 93 (0, 0))) x.ms (x.hb (dirAt s.sure (s.opn.take k.toNat)))) := hid (by rw [← HJ.out]; exact HPM.out.ext (Ext.alloc _ _))
        have HF2 : Hid (Fr [x.ms] w (wr.alloc (.cells #[vN nf, vN nt, .pointer ov] 93 (0, 0)))) := hid (HF.out.trans (Ext.fr (Ext.alloc _ _)))
        exfalso
        have := HJ.out
        omega
      · have g1 : decide ((j : Int) ≥ k) = false := by simpa using hge
        have HJK2 : Hid (j + 1 ≤ k.toNat) := hid (by omega)
        have hlt2 : j + 1 ≤ s.opn.length := hlt
        clear hge
        go_wp2_with fail
        refine HCALL.out.mono ?_
        rintro e w5 ⟨⟨u, rfl⟩, q1, q2⟩
        have HQ1 := hid q1
        have HQ2 : Hid (Fr [x.ms] w w5) := hid ((HF.out.trans (Ext.fr (Ext.alloc _ _))).trans q2)
        clear q1 q2 m0 m1 m2 HCALL
        go_wp2
        go_roundw
        case rel => exact ⟨j + 1, by omega, by go_num, HJK2, HQ1, HQ2⟩
        case measure => simp [intOf]; omega
    · obtain rfl : j = s.opn.length := by omega
      have hi1 : decide ((s.opn.length : Int) < s.opn.length) = false := by simp
      obtain ⟨WX, hWX⟩ : ∃ WX, WX = wr := ⟨_, rfl⟩
      subst hWX
      have HPM2 : Hid (PM WX x.ms (x.hb (dirAt s.sure (s.opn.take k.toNat)))) := hid (by
        have := HPM.out
        rw [List.take_length] at this
        rw [List.take_of_length_le HJK.out]; exact this)
      have HF2 := HF
      clear HPM HF HJK HC HNN HVB c2 c3
      go_wp2_with fail
      obtain ⟨d, hdd⟩ : ∃ d, dirAt s.sure (s.opn.take k.toNat) = d := ⟨_, rfl⟩
      have HDD := hid hdd
      have HDS : Hid (Sorted d) := hid (by rw [← hdd]; exact H.out.gd.ds _)
      have hdl : d.length ≤ 60 := by rw [← hdd]; exact H.out.gd.dk _
      have HDN : Hid (∀ z ∈ d, z.2 < s.files.length ∧ z.1.length ≤ maxLen) := hid (fun z hz => by
        rw [← hdd] at hz
        have h1 := H.out.gd.nm _ z hz
        exact ⟨h1.2, by have := nmOk_len h1.1; simp [maxLen]; omega⟩)
      rw [hdd] at HPM2
      clear hdd
      refine (dnames_any WX x.ms (x.hb d) HPM2.out (hb_sorted HDS.out) (by rw [hb_len]; omega)).mono ?_
      rintro e w2 ⟨⟨v, rfl, ho⟩, hE⟩
      rw [hb_fst] at ho
      obtain ⟨no, nc, hvv⟩ := ho.shape
      rw [List.length_map] at hvv
      subst hvv
      have HNM := hid ho
      have HPM3 := hid (HPM2.out.ext hE)
      have HF3 : Hid (Fr [x.ms] w w2) := hid (HF2.out.trans (Ext.fr hE))
      have HFL : Hid (Fls B w2 x s.files) := hid (H.out.fls.fr HF3.out (fun q hq => by
        obtain rfl : q = x.ms := by simpa using hq
        obtain ⟨es, ck, hb⟩ := H.out.sr.block
        exact ⟨_, hb, (by intro cs e; cases e), (by intro cs e; cases e)⟩))
      have HF3' : Hid (Fr (x.ms :: x.bl.map Prod.fst) w w2) := hid (HF3.out.mono (by intro q hq; obtain rfl : q = x.ms := (by simpa using hq); simp))
      clear ho hE HPM2 HF2
      go_wp2
      go_loopw [36] (fun iv wr => ∃ (j : Nat) (bl : List (Nat × Value)), j ≤ d.length ∧ iv = .int .i64 j ∧ Hid (Fls B wr ⟨x.md, x.ms, x.vo, bl⟩ (crA (d.take j) ts s.files)) ∧ Hid (bl.map Prod.fst = x.bl.map Prod.fst ∧ ∀ q ∈ bl.flatMap (fun z => oB z.2), q ∈ x.bl.flatMap fun z => oB z.2) ∧ Hid (PM wr x.ms (x.hb d)) ∧ Hid (Fr (x.ms :: x.bl.map Prod.fst) w wr) ∧ Hid (OwV vN wr WX.heap.size 9 (.slice no d.length nc) (d.map Prod.fst))) (fun iv _ => d.length - (intOf iv).toNat)
      case atStart => exact ⟨0, x.bl, by omega, rfl, HFL, hid ⟨rfl, fun q hq => hq⟩, HPM3, HF3', HNM⟩
      case round =>
        obtain ⟨wz, hwz⟩ : ∃ wz, wz = wr := ⟨_, rfl⟩
        subst hwz
        obtain ⟨j, bl, hj, rfl, HFL2, HBL, HPM4, HF4, HNM4⟩ := hrel
        clear HFL HPM3 HF3 HF3' HNM
        by_cases hlt : j < d.length
        · have hi1 : decide ((j : Int) < d.length) = true := by simp; omega
          have hjl : j < d.length := hlt
          obtain ⟨-, hncl, -, hnn2, hcell2⟩ := (OwV.vec HNM4.out).opens
          obtain ⟨na, rfl⟩ := hnn2 (by omega)
          have hcn := hcell2 na rfl j (by simpa using hlt)
          rw [List.getElem_map] at hcn
          have hzm : d[j] ∈ d := List.getElem_mem hlt
          have hst := crA_step (ts := ts) (fs := s.files) hlt
          obtain ⟨z, hz⟩ : ∃ z, d[j] = z := ⟨_, rfl⟩
          rw [hz] at hcn hzm hst
          have HST := hid hst
          have HZM := hid hzm
          have hzn := HDN.out z hzm
          have hlk : (x.hb d).lookup z.1 = some (x.bk z.2) := by rw [hb_look, show look d z.1 = some z.2 from nodup_lookup (sorted_nodup HDS.out) hzm]; rfl
          have hml := HPM4.out.look z.1 hzn.2
          rw [hlk] at hml
          simp only [ptr] at hml
          have hzf : z.2 < (crA (d.take j) ts s.files).length := by rw [crA_len]; exact hzn.1
          obtain ⟨fo, fc, hblk, hsv, hown⟩ := HFL2.out.file hzf
          rw [bk_congr HBL.out.1] at hblk
          have hszz := HFL2.out.sz _ (getD_mem (d := ([], 0)) hzf)
          have hfc : flen (crA (d.take j) ts s.files) z.2 ≤ fc := by
            obtain ⟨ao2, cap2, e6, h6, -⟩ := hown.byt.open
            simp only [Value.slice.injEq] at e6
            omega
          have HBLK := hid hblk
          have HSV := hid hsv
          have HSZ := hid hszz
          have HFC := hid hfc
          have HZF := hid hzf
          have hvt := vec_fr HV.out HF4.out (fun a ha hne hm => HTO.out a ha hne (by
            simp only [DX.blk, List.mem_cons, List.mem_append] at hm ⊢
            rcases hm with h | h
            · exact .inr (.inr (.inl h))
            · exact .inr (.inr (.inr (.inl (.inr h))))))
          obtain ⟨-, -, -, htn, htc⟩ := hvt.opens
          have HTC := hid htc
          have HTN := hid htn
          obtain ⟨t, ht⟩ : ∃ t, ts.getD j 0 = t := ⟨_, rfl⟩
          rw [ht] at HST
          have htr : -9223372036854775808 ≤ t ∧ t ≤ 9223372036854775807 := by
            by_cases h : j < ts.length
            · exact HTS.out t (by rw [← ht]; exact getD_mem h)
            · rw [← ht, List.getD_eq_getElem?_getD, List.getElem?_eq_none (by omega)]; simp
          have HTR := hid htr
          have HT := hid ht
          obtain ⟨fs, hfs⟩ : ∃ fs, crA (d.take j) ts s.files = fs := ⟨_, rfl⟩
          rw [hfs] at HBLK HSV HSZ HFC HZF HFL2 HST
          clear hcell2 hnn2 hncl hzm hst hz hzn hlk hzf hblk hsv hown hszz hfc hvt htn htc ht htr hfs
          have hcall := fun w5 (hw : w5 = wz) => fcrash_any w5 (x.bk z.2) fo (flen fs z.2) fc (fs.getD z.2 ([], 0)).2 t HTR.out (by rw [hw]; exact HBLK.out) HSZ.out.1 HFC.out HSZ.out.2 _ rfl
          have HCALL := hid hcall
          clear hcall
          by_cases hj2 : j < ts.length
          · obtain ⟨ta, rfl⟩ : ∃ a, to = some a := HTN.out (by
              obtain ⟨ao2, cap2, e6, h6, -⟩ := HV.out.open
              simp only [Value.slice.injEq] at e6
              omega)
            have hct := HTC.out ta rfl j hj2
            have hte : ts[j] = t := by rw [← HT.out, List.getD_eq_getElem?_getD, List.getElem?_eq_getElem hj2]; rfl
            rw [hte] at hct
            have hi2 : decide ((j : Int) < ts.length) = true := by simp; omega
            have hjt : j < ts.length := hj2
            clear hte
            go_wp2_with fail
            refine (HCALL.out _ rfl).mono ?_
            rintro e w5 ⟨⟨u, rfl⟩, q1, q2⟩
            obtain ⟨r1, r2⟩ := HFL2.out.cut HZF.out _ HSV.out rfl (by rw [bk_congr HBL.out.1]; exact q1) (by rw [bk_congr HBL.out.1]; exact q2)
            have hms5 : x.ms ≠ x.bk z.2 := fun e => by
              obtain ⟨es, ck, hb⟩ := HPM4.out.block
              have := HBLK.out
              rw [← e, hb] at this; cases this
            have HPM5 := hid (HPM4.out.fr q2 (by simpa using hms5))
            have HNM5 : Hid (OwV vN w5 WX.heap.size 9 (.slice (some na) d.length nc) (d.map Prod.fst)) := hid (ownsRow_fr HNM4.out q2 (fun q hq hq2 => by
              obtain rfl : q = x.bk z.2 := by simpa using hq2
              exact row_no HNM4.out HBLK.out (by intro cs e; simp at e) hq))
            have hbm : x.bk z.2 ∈ x.bl.map Prod.fst := H.out.bk_mem (HDN.out z HZM.out).1
            have HF5 : Hid (Fr (x.ms :: x.bl.map Prod.fst) w w5) := hid (HF4.out.trans (q2.mono (by intro q hq; obtain rfl : q = x.bk z.2 := (by simpa using hq); exact List.mem_cons_of_mem _ hbm)))
            have hblx : z.2 < bl.length := by have := HFL2.out.fn; rw [show (DX.mk x.md x.ms x.vo bl).bl = bl from rfl] at this; rw [this]; exact HZF.out
            have HBL5 := hid (bl_set HBL.out hblx r2)
            have HFL5 : Hid (Fls B w5 _ (crA (d.take (j + 1)) ts s.files)) := hid (by rw [HST.out]; exact r1)
            clear q1 q2 r1 r2 hms5 hbm hblx HCALL
            go_wp2
            go_roundw
            case rel => exact ⟨j + 1, _, by omega, by go_num, HFL5, HBL5, HPM5, HF5, HNM5⟩
            case measure => simp [intOf]; omega
          · have ht0 : t = 0 := by rw [← HT.out, List.getD_eq_getElem?_getD, List.getElem?_eq_none (by omega)]; rfl
            have HT0 := hid ht0
            have hi2 : decide ((j : Int) < ts.length) = false := by simp; omega
            subst ht0
            go_wp2_with fail
            refine (HCALL.out _ rfl).mono ?_
            rintro e w5 ⟨⟨u, rfl⟩, q1, q2⟩
            obtain ⟨r1, r2⟩ := HFL2.out.cut HZF.out _ HSV.out rfl (by rw [bk_congr HBL.out.1]; exact q1) (by rw [bk_congr HBL.out.1]; exact q2)
            have hms5 : x.ms ≠ x.bk z.2 := fun e => by
              obtain ⟨es, ck, hb⟩ := HPM4.out.block
              have := HBLK.out
              rw [← e, hb] at this; cases this
            have HPM5 := hid (HPM4.out.fr q2 (by simpa using hms5))
            have HNM5 : Hid (OwV vN w5 WX.heap.size 9 (.slice (some na) d.length nc) (d.map Prod.fst)) := hid (ownsRow_fr HNM4.out q2 (fun q hq hq2 => by
              obtain rfl : q = x.bk z.2 := by simpa using hq2
              exact row_no HNM4.out HBLK.out (by intro cs e; simp at e) hq))
            have hbm : x.bk z.2 ∈ x.bl.map Prod.fst := H.out.bk_mem (HDN.out z HZM.out).1
            have HF5 : Hid (Fr (x.ms :: x.bl.map Prod.fst) w w5) := hid (HF4.out.trans (q2.mono (by intro q hq; obtain rfl : q = x.bk z.2 := (by simpa using hq); exact List.mem_cons_of_mem _ hbm)))
            have hblx : z.2 < bl.length := by have := HFL2.out.fn; rw [show (DX.mk x.md x.ms x.vo bl).bl = bl from rfl] at this; rw [this]; exact HZF.out
            have HBL5 := hid (bl_set HBL.out hblx r2)
            have HFL5 : Hid (Fls B w5 _ (crA (d.take (j + 1)) ts s.files)) := hid (by rw [HST.out]; exact r1)
            clear q1 q2 r1 r2 hms5 hbm hblx HCALL
            go_wp2
            go_roundw
            case rel => exact ⟨j + 1, _, by omega, by go_num, HFL5, HBL5, HPM5, HF5, HNM5⟩
            case measure => simp [intOf]; omega
        · obtain rfl : j = d.length := by omega
          have hi1 : decide ((d.length : Int) < d.length) = false := by simp
          have HFL3 : Hid (Fls B wz ⟨x.md, x.ms, x.vo, bl⟩ (crA d ts s.files)) := hid (by have := HFL2.out; rwa [List.take_length] at this)
          clear HFL2 HNM4
          have hmsb : x.ms ≠ p := Ne.symm H.out.p_ms
          have hpb : ∀ q ∈ x.bl.map Prod.fst, q ≠ p := fun q hq e => by
            obtain ⟨i, hi, e2⟩ := List.mem_iff_getElem.1 hq
            have hi2 : i < s.files.length := by rw [← H.out.fn]; simpa using hi
            have h1 := (H.out.fi i hi2).1
            have e3 : x.bk i = q := by rw [← e2]; simp [DX.bk, List.getD_eq_getElem?_getD, show i < x.bl.length by simpa using hi]
            rw [e3, e, H.out.hd] at h1
            simp at h1
          have HPS : Hid (p ∉ x.ms :: x.bl.map Prod.fst) := hid (by
            simp only [List.mem_cons, not_or]
            exact ⟨Ne.symm hmsb, fun h => hpb p h rfl⟩)
          have HHD : Hid (wz.heap[p]? = some (diskO x s)) := hid ((HF4.out.block p (Array.getElem?_eq_some_iff.1 H.out.hd).1 HPS.out).trans H.out.hd)
          have HPW : Hid (p < w.heap.size) := hid (Array.getElem?_eq_some_iff.1 H.out.hd).1
          clear hmsb hpb
          go_wp2_with fail
          refine (clone_any wz x.ms (x.hb d) HPM4.out).mono ?_
          rintro e w5 ⟨rfl, q1, q2⟩
          have hb2 := q2.obj HHD.out
          obtain ⟨-, ff⟩ := lk6 hb2
          have f1 := ff 1
          have f2 := ff 2
          have f3 := ff 3
          have f4 := ff 4
          have f5 := ff 5
          obtain ⟨m, hm⟩ : ∃ m, wz.heap.size = m := ⟨_, rfl⟩
          have HM := hid hm
          have HQ1 := hid q1
          have HQ2 := hid q2
          have HB2 := hid hb2
          rw [hm] at HQ1 ⊢
          obtain ⟨vo3, vc3, hvo3⟩ := row_shape H.out.op
          have hb3 := hb2
          unfold diskO at hb3
          simp only [hvo3] at hb3
          obtain ⟨⟨-, c1, c2, c3, c4, c5⟩, -⟩ := lk6 hb3
          clear q1 q2 hb2 hb3 hvo3 ff hm
          go_wp2
          go_returns
          refine ⟨⟨_, rfl⟩, ?_⟩
          have s1 := crash_block (k := k) (ts := ts) (bl := bl) HB2.out m
          have hF : Fr [p] w5 (((((w5.setCell ⟨p, 1, none⟩ (.map (some x.ms))).setCell ⟨p, 2, none⟩ (.map (some m))).setCell ⟨p, 3, none⟩ (.slice none 0 0)).setCell ⟨p, 4, none⟩ (.int .i64 (-1))).setCell ⟨p, 5, none⟩ (.bool false)) := ((((fr_setCell _ _ _ (by simp)).trans (fr_setCell _ _ _ (by simp))).trans (fr_setCell _ _ _ (by simp))).trans (fr_setCell _ _ _ (by simp))).trans (fr_setCell _ _ _ (by simp))
          exact crash_end H.out HG.out HB.out HDD.out HFL3.out HBL.out HPM4.out HF4.out ((Ext.fr HQ2.out).trans hF) hF s1 HQ1.out (by rw [HM.out]; exact Nat.le_refl _)

set_option maxRecDepth 100000 in
set_option maxHeartbeats 2000000 in
theorem dcrashB_any {B : Nat} {w : World} {p : Nat} {x : DX} {s : PS} (k : Int) (ts : List Int) (to : Option Addr) (tc : Nat) (h : Dk B w p x s) (hB : B ≤ w.heap.size) (hv : Vec Go.Tum.iv w (.slice to ts.length tc) ts) (hto : ∀ a, to = some a → ts ≠ [] → a.block ∉ x.blk p)
    (hts : ∀ t ∈ ts, -9223372036854775808 ≤ t ∧ t ≤ 9223372036854775807) (hg : Gd (crP s k ts)) (hcase : k.toNat < s.opn.length) :
    Calls Tryz.prog 14 #[pv p, .int .i64 k, .slice to ts.length tc] w fun e w' => (∃ u, e = .returned u) ∧ Stp B w p x (crP s k ts) w' := by
  have H := hid h
  have HG := hid hg
  have HB := hid hB
  have HV := hid hv
  have HTO := hid hto
  have HTS := hid hts
  obtain ⟨⟨-, -, c2, c3, -, -⟩, -⟩ := lk6 h.hd
  have hro : RowsOf w 3 x.vo x.cc s.opn := ⟨fun _ _ => rfl, Sl.of_owns h.op⟩
  obtain ⟨vo, vcap, hvo, hle, hmm, hnn, hcell⟩ := hro.open
  have HC := hid hcell
  have HNN := hid hnn
  rw [hvo] at c3
  have HVB : Hid (∀ a, vo = some a → a.block ≠ x.ms) := hid (fun a ha e => by
    obtain ⟨es, ck, hb⟩ := h.sr.block
    rcases h.op.2 with ⟨e1, e2⟩ | ⟨g, cap, cur, e1, e2, e3, -⟩
    · rw [hvo] at e1; simp only [Value.slice.injEq] at e1; rw [e1.1] at ha; cases ha
    · rw [hvo] at e1; simp only [Value.slice.injEq] at e1; rw [e1.1] at ha; cases ha
      simp only at e
      rw [e, hb] at e3; cases e3)
  have HSR := hid h.sr
  clear h hg hB hv hto hts hro hcell hnn hvo
  go_enter Tryz.func14, Tryz.ntmps14
  go_wp2
  go_loopw [21] (fun iv wr => ∃ j : Nat, j ≤ s.opn.length ∧ iv = .int .i64 j ∧ Hid (j ≤ k.toNat) ∧ Hid (PM wr x.ms (x.hb (dirAt s.sure (s.opn.take j)))) ∧ Hid (Fr [x.ms] w wr)) (fun iv _ => s.opn.length - (intOf iv).toNat)
  case atStart => exact ⟨0, by omega, rfl, hid (by omega), HSR, hid (Fr.refl _ _)⟩
  case round =>
    obtain ⟨j, hj, rfl, HJK, HPM, HF⟩ := hrel
    by_cases hlt : j < s.opn.length
    · obtain ⟨g, rfl⟩ := HNN.out (by omega)
      have hcl : ∀ i u, (x.cc s.opn[j])[i]? = some u → wr.cell? (g.add (j * 3 + i)) = some u := fun i u hu => by
        have hc := HC.out g rfl j hlt i u hu
        have hb : (g.add (j * 3 + i)).block = g.block := by unfold Addr.add; split <;> rfl
        exact (HF.out.cell (by rw [hb]; simpa using HVB.out g rfl) (World.block_lt_of_cell? w _ hc)).trans hc
      have m0 := cell_first (hcl 0 _ rfl)
      have m1 := cell_next (hcl 1 _ rfl) (by decide)
      have m2 := cell_next (hcl 2 _ rfl) (by decide)
      have hi1 : decide ((j : Int) < s.opn.length) = true := by simp; omega
      have hop := H.out.gd.op s.opn[j] (List.getElem_mem hlt)
      have hst := dirAt_step (d := s.sure) hlt
      obtain ⟨ov, hov⟩ := ptr_shape (s.opn[j].file.map x.bk)
      have hcall := dapp_any (wr.alloc (.cells #[vN s.opn[j].frm, vN s.opn[j].to, ptr (s.opn[j].file.map x.bk)] 93 (0, 0))) x.ms (x.hb (dirAt s.sure (s.opn.take j))) ⟨s.opn[j].frm, s.opn[j].to, s.opn[j].file.map x.bk⟩ (HPM.out.ext (Ext.alloc _ _)) (hb_sorted (H.out.gd.ds j)) (by rw [hb_len]; have := H.out.gd.dk j; omega) (by simp [maxLen]; omega) (by simp [maxLen]; omega)
      unfold ApP at hcall
      rw [← hb_app, ← hst] at hcall
      simp only [hov] at hcall
      rw [hov] at m2
      have HCALL := hid hcall
      clear hcall hst hov hop hcl
      generalize s.opn[j].frm = nf at *
      generalize s.opn[j].to = nt at *
      by_cases hge : k ≤ (j : Int)
      · have g1 : decide ((j : Int) ≥ k) = true := by simpa using hge
        have HJ : Hid (j = k.toNat) := hid (by have := HJK.out; omega)
        have HPM2 : Hid (PM (wr.alloc (.cells #[vN nf, vN nt, .pointer ov] 93 (0, 0))) x.ms (x.hb (dirAt s.sure (s.opn.take k.toNat)))) := hid (by rw [← HJ.out]; exact HPM.out.ext (Ext.alloc _ _))
        have HF2 : Hid (Fr [x.ms] w (wr.alloc (.cells #[vN nf, vN nt, .pointer ov] 93 (0, 0)))) := hid (HF.out.trans (Ext.fr (Ext.alloc _ _)))
        clear hge HCALL HPM HF HJ HJK HC HNN HVB c2 c3
        obtain ⟨WX, hWX⟩ : ∃ WX, wr.alloc (.cells #[vN nf, vN nt, .pointer ov] 93 (0, 0)) = WX := ⟨_, rfl⟩
        rw [hWX] at HPM2 HF2
        go_wp2_with fail
        obtain ⟨d, hdd⟩ : ∃ d, dirAt s.sure (s.opn.take k.toNat) = d := ⟨_, rfl⟩
        have HDD := hid hdd
        have HDS : Hid (Sorted d) := hid (by rw [← hdd]; exact H.out.gd.ds _)
        have hdl : d.length ≤ 60 := by rw [← hdd]; exact H.out.gd.dk _
        have HDN : Hid (∀ z ∈ d, z.2 < s.files.length ∧ z.1.length ≤ maxLen) := hid (fun z hz => by
          rw [← hdd] at hz
          have h1 := H.out.gd.nm _ z hz
          exact ⟨h1.2, by have := nmOk_len h1.1; simp [maxLen]; omega⟩)
        rw [hdd] at HPM2
        clear hdd
        refine (dnames_any WX x.ms (x.hb d) HPM2.out (hb_sorted HDS.out) (by rw [hb_len]; omega)).mono ?_
        rintro e w2 ⟨⟨v, rfl, ho⟩, hE⟩
        rw [hb_fst] at ho
        obtain ⟨no, nc, hvv⟩ := ho.shape
        rw [List.length_map] at hvv
        subst hvv
        have HNM := hid ho
        have HPM3 := hid (HPM2.out.ext hE)
        have HF3 : Hid (Fr [x.ms] w w2) := hid (HF2.out.trans (Ext.fr hE))
        have HFL : Hid (Fls B w2 x s.files) := hid (H.out.fls.fr HF3.out (fun q hq => by
          obtain rfl : q = x.ms := by simpa using hq
          obtain ⟨es, ck, hb⟩ := H.out.sr.block
          exact ⟨_, hb, (by intro cs e; cases e), (by intro cs e; cases e)⟩))
        have HF3' : Hid (Fr (x.ms :: x.bl.map Prod.fst) w w2) := hid (HF3.out.mono (by intro q hq; obtain rfl : q = x.ms := (by simpa using hq); simp))
        clear ho hE HPM2 HF2
        go_wp2
        go_loopw [36] (fun iv wr => ∃ (j : Nat) (bl : List (Nat × Value)), j ≤ d.length ∧ iv = .int .i64 j ∧ Hid (Fls B wr ⟨x.md, x.ms, x.vo, bl⟩ (crA (d.take j) ts s.files)) ∧ Hid (bl.map Prod.fst = x.bl.map Prod.fst ∧ ∀ q ∈ bl.flatMap (fun z => oB z.2), q ∈ x.bl.flatMap fun z => oB z.2) ∧ Hid (PM wr x.ms (x.hb d)) ∧ Hid (Fr (x.ms :: x.bl.map Prod.fst) w wr) ∧ Hid (OwV vN wr WX.heap.size 9 (.slice no d.length nc) (d.map Prod.fst))) (fun iv _ => d.length - (intOf iv).toNat)
        case atStart => exact ⟨0, x.bl, by omega, rfl, HFL, hid ⟨rfl, fun q hq => hq⟩, HPM3, HF3', HNM⟩
        case round =>
          obtain ⟨wz, hwz⟩ : ∃ wz, wz = wr := ⟨_, rfl⟩
          subst hwz
          obtain ⟨j, bl, hj, rfl, HFL2, HBL, HPM4, HF4, HNM4⟩ := hrel
          clear HFL HPM3 HF3 HF3' HNM
          by_cases hlt : j < d.length
          · have hi1 : decide ((j : Int) < d.length) = true := by simp; omega
            have hjl : j < d.length := hlt
            obtain ⟨-, hncl, -, hnn2, hcell2⟩ := (OwV.vec HNM4.out).opens
            obtain ⟨na, rfl⟩ := hnn2 (by omega)
            have hcn := hcell2 na rfl j (by simpa using hlt)
            rw [List.getElem_map] at hcn
            have hzm : d[j] ∈ d := List.getElem_mem hlt
            have hst := crA_step (ts := ts) (fs := s.files) hlt
            obtain ⟨z, hz⟩ : ∃ z, d[j] = z := ⟨_, rfl⟩
            rw [hz] at hcn hzm hst
            have HST := hid hst
            have HZM := hid hzm
            have hzn := HDN.out z hzm
            have hlk : (x.hb d).lookup z.1 = some (x.bk z.2) := by rw [hb_look, show look d z.1 = some z.2 from nodup_lookup (sorted_nodup HDS.out) hzm]; rfl
            have hml := HPM4.out.look z.1 hzn.2
            rw [hlk] at hml
            simp only [ptr] at hml
            have hzf : z.2 < (crA (d.take j) ts s.files).length := by rw [crA_len]; exact hzn.1
            obtain ⟨fo, fc, hblk, hsv, hown⟩ := HFL2.out.file hzf
            rw [bk_congr HBL.out.1] at hblk
            have hszz := HFL2.out.sz _ (getD_mem (d := ([], 0)) hzf)
            have hfc : flen (crA (d.take j) ts s.files) z.2 ≤ fc := by
              obtain ⟨ao2, cap2, e6, h6, -⟩ := hown.byt.open
              simp only [Value.slice.injEq] at e6
              omega
            have HBLK := hid hblk
            have HSV := hid hsv
            have HSZ := hid hszz
            have HFC := hid hfc
            have HZF := hid hzf
            have hvt := vec_fr HV.out HF4.out (fun a ha hne hm => HTO.out a ha hne (by
              simp only [DX.blk, List.mem_cons, List.mem_append] at hm ⊢
              rcases hm with h | h
              · exact .inr (.inr (.inl h))
              · exact .inr (.inr (.inr (.inl (.inr h))))))
            obtain ⟨-, -, -, htn, htc⟩ := hvt.opens
            have HTC := hid htc
            have HTN := hid htn
            obtain ⟨t, ht⟩ : ∃ t, ts.getD j 0 = t := ⟨_, rfl⟩
            rw [ht] at HST
            have htr : -9223372036854775808 ≤ t ∧ t ≤ 9223372036854775807 := by
              by_cases h : j < ts.length
              · exact HTS.out t (by rw [← ht]; exact getD_mem h)
              · rw [← ht, List.getD_eq_getElem?_getD, List.getElem?_eq_none (by omega)]; simp
            have HTR := hid htr
            have HT := hid ht
            obtain ⟨fs, hfs⟩ : ∃ fs, crA (d.take j) ts s.files = fs := ⟨_, rfl⟩
            rw [hfs] at HBLK HSV HSZ HFC HZF HFL2 HST
            clear hcell2 hnn2 hncl hzm hst hz hzn hlk hzf hblk hsv hown hszz hfc hvt htn htc ht htr hfs
            have hcall := fun w5 (hw : w5 = wz) => fcrash_any w5 (x.bk z.2) fo (flen fs z.2) fc (fs.getD z.2 ([], 0)).2 t HTR.out (by rw [hw]; exact HBLK.out) HSZ.out.1 HFC.out HSZ.out.2 _ rfl
            have HCALL := hid hcall
            clear hcall
            by_cases hj2 : j < ts.length
            · obtain ⟨ta, rfl⟩ : ∃ a, to = some a := HTN.out (by
                obtain ⟨ao2, cap2, e6, h6, -⟩ := HV.out.open
                simp only [Value.slice.injEq] at e6
                omega)
              have hct := HTC.out ta rfl j hj2
              have hte : ts[j] = t := by rw [← HT.out, List.getD_eq_getElem?_getD, List.getElem?_eq_getElem hj2]; rfl
              rw [hte] at hct
              have hi2 : decide ((j : Int) < ts.length) = true := by simp; omega
              have hjt : j < ts.length := hj2
              clear hte
              go_wp2_with fail
              refine (HCALL.out _ rfl).mono ?_
              rintro e w5 ⟨⟨u, rfl⟩, q1, q2⟩
              obtain ⟨r1, r2⟩ := HFL2.out.cut HZF.out _ HSV.out rfl (by rw [bk_congr HBL.out.1]; exact q1) (by rw [bk_congr HBL.out.1]; exact q2)
              have hms5 : x.ms ≠ x.bk z.2 := fun e => by
                obtain ⟨es, ck, hb⟩ := HPM4.out.block
                have := HBLK.out
                rw [← e, hb] at this; cases this
              have HPM5 := hid (HPM4.out.fr q2 (by simpa using hms5))
              have HNM5 : Hid (OwV vN w5 WX.heap.size 9 (.slice (some na) d.length nc) (d.map Prod.fst)) := hid (ownsRow_fr HNM4.out q2 (fun q hq hq2 => by
                obtain rfl : q = x.bk z.2 := by simpa using hq2
                exact row_no HNM4.out HBLK.out (by intro cs e; simp at e) hq))
              have hbm : x.bk z.2 ∈ x.bl.map Prod.fst := H.out.bk_mem (HDN.out z HZM.out).1
              have HF5 : Hid (Fr (x.ms :: x.bl.map Prod.fst) w w5) := hid (HF4.out.trans (q2.mono (by intro q hq; obtain rfl : q = x.bk z.2 := (by simpa using hq); exact List.mem_cons_of_mem _ hbm)))
              have hblx : z.2 < bl.length := by have := HFL2.out.fn; rw [show (DX.mk x.md x.ms x.vo bl).bl = bl from rfl] at this; rw [this]; exact HZF.out
              have HBL5 := hid (bl_set HBL.out hblx r2)
              have HFL5 : Hid (Fls B w5 _ (crA (d.take (j + 1)) ts s.files)) := hid (by rw [HST.out]; exact r1)
              clear q1 q2 r1 r2 hms5 hbm hblx HCALL
              go_wp2
              go_roundw
              case rel => exact ⟨j + 1, _, by omega, by go_num, HFL5, HBL5, HPM5, HF5, HNM5⟩
              case measure => simp [intOf]; omega
            · have ht0 : t = 0 := by rw [← HT.out, List.getD_eq_getElem?_getD, List.getElem?_eq_none (by omega)]; rfl
              have HT0 := hid ht0
              have hi2 : decide ((j : Int) < ts.length) = false := by simp; omega
              subst ht0
              go_wp2_with fail
              refine (HCALL.out _ rfl).mono ?_
              rintro e w5 ⟨⟨u, rfl⟩, q1, q2⟩
              obtain ⟨r1, r2⟩ := HFL2.out.cut HZF.out _ HSV.out rfl (by rw [bk_congr HBL.out.1]; exact q1) (by rw [bk_congr HBL.out.1]; exact q2)
              have hms5 : x.ms ≠ x.bk z.2 := fun e => by
                obtain ⟨es, ck, hb⟩ := HPM4.out.block
                have := HBLK.out
                rw [← e, hb] at this; cases this
              have HPM5 := hid (HPM4.out.fr q2 (by simpa using hms5))
              have HNM5 : Hid (OwV vN w5 WX.heap.size 9 (.slice (some na) d.length nc) (d.map Prod.fst)) := hid (ownsRow_fr HNM4.out q2 (fun q hq hq2 => by
                obtain rfl : q = x.bk z.2 := by simpa using hq2
                exact row_no HNM4.out HBLK.out (by intro cs e; simp at e) hq))
              have hbm : x.bk z.2 ∈ x.bl.map Prod.fst := H.out.bk_mem (HDN.out z HZM.out).1
              have HF5 : Hid (Fr (x.ms :: x.bl.map Prod.fst) w w5) := hid (HF4.out.trans (q2.mono (by intro q hq; obtain rfl : q = x.bk z.2 := (by simpa using hq); exact List.mem_cons_of_mem _ hbm)))
              have hblx : z.2 < bl.length := by have := HFL2.out.fn; rw [show (DX.mk x.md x.ms x.vo bl).bl = bl from rfl] at this; rw [this]; exact HZF.out
              have HBL5 := hid (bl_set HBL.out hblx r2)
              have HFL5 : Hid (Fls B w5 _ (crA (d.take (j + 1)) ts s.files)) := hid (by rw [HST.out]; exact r1)
              clear q1 q2 r1 r2 hms5 hbm hblx HCALL
              go_wp2
              go_roundw
              case rel => exact ⟨j + 1, _, by omega, by go_num, HFL5, HBL5, HPM5, HF5, HNM5⟩
              case measure => simp [intOf]; omega
          · obtain rfl : j = d.length := by omega
            have hi1 : decide ((d.length : Int) < d.length) = false := by simp
            have HFL3 : Hid (Fls B wz ⟨x.md, x.ms, x.vo, bl⟩ (crA d ts s.files)) := hid (by have := HFL2.out; rwa [List.take_length] at this)
            clear HFL2 HNM4
            have hmsb : x.ms ≠ p := Ne.symm H.out.p_ms
            have hpb : ∀ q ∈ x.bl.map Prod.fst, q ≠ p := fun q hq e => by
              obtain ⟨i, hi, e2⟩ := List.mem_iff_getElem.1 hq
              have hi2 : i < s.files.length := by rw [← H.out.fn]; simpa using hi
              have h1 := (H.out.fi i hi2).1
              have e3 : x.bk i = q := by rw [← e2]; simp [DX.bk, List.getD_eq_getElem?_getD, show i < x.bl.length by simpa using hi]
              rw [e3, e, H.out.hd] at h1
              simp at h1
            have HPS : Hid (p ∉ x.ms :: x.bl.map Prod.fst) := hid (by
              simp only [List.mem_cons, not_or]
              exact ⟨Ne.symm hmsb, fun h => hpb p h rfl⟩)
            have HHD : Hid (wz.heap[p]? = some (diskO x s)) := hid ((HF4.out.block p (Array.getElem?_eq_some_iff.1 H.out.hd).1 HPS.out).trans H.out.hd)
            have HPW : Hid (p < w.heap.size) := hid (Array.getElem?_eq_some_iff.1 H.out.hd).1
            clear hmsb hpb
            go_wp2_with fail
            refine (clone_any wz x.ms (x.hb d) HPM4.out).mono ?_
            rintro e w5 ⟨rfl, q1, q2⟩
            have hb2 := q2.obj HHD.out
            obtain ⟨-, ff⟩ := lk6 hb2
            have f1 := ff 1
            have f2 := ff 2
            have f3 := ff 3
            have f4 := ff 4
            have f5 := ff 5
            obtain ⟨m, hm⟩ : ∃ m, wz.heap.size = m := ⟨_, rfl⟩
            have HM := hid hm
            have HQ1 := hid q1
            have HQ2 := hid q2
            have HB2 := hid hb2
            rw [hm] at HQ1 ⊢
            obtain ⟨vo3, vc3, hvo3⟩ := row_shape H.out.op
            have hb3 := hb2
            unfold diskO at hb3
            simp only [hvo3] at hb3
            obtain ⟨⟨-, c1, c2, c3, c4, c5⟩, -⟩ := lk6 hb3
            clear q1 q2 hb2 hb3 hvo3 ff hm
            go_wp2
            go_returns
            refine ⟨⟨_, rfl⟩, ?_⟩
            have s1 := crash_block (k := k) (ts := ts) (bl := bl) HB2.out m
            have hF : Fr [p] w5 (((((w5.setCell ⟨p, 1, none⟩ (.map (some x.ms))).setCell ⟨p, 2, none⟩ (.map (some m))).setCell ⟨p, 3, none⟩ (.slice none 0 0)).setCell ⟨p, 4, none⟩ (.int .i64 (-1))).setCell ⟨p, 5, none⟩ (.bool false)) := ((((fr_setCell _ _ _ (by simp)).trans (fr_setCell _ _ _ (by simp))).trans (fr_setCell _ _ _ (by simp))).trans (fr_setCell _ _ _ (by simp))).trans (fr_setCell _ _ _ (by simp))
            exact crash_end H.out HG.out HB.out HDD.out HFL3.out HBL.out HPM4.out HF4.out ((Ext.fr HQ2.out).trans hF) hF s1 HQ1.out (by rw [HM.out]; exact Nat.le_refl _)

      · have g1 : decide ((j : Int) ≥ k) = false := by simpa using hge
        have HJK2 : Hid (j + 1 ≤ k.toNat) := hid (by omega)
        have hlt2 : j + 1 ≤ s.opn.length := hlt
        clear hge
        go_wp2_with fail
        refine HCALL.out.mono ?_
        rintro e w5 ⟨⟨u, rfl⟩, q1, q2⟩
        have HQ1 := hid q1
        have HQ2 : Hid (Fr [x.ms] w w5) := hid ((HF.out.trans (Ext.fr (Ext.alloc _ _))).trans q2)
        clear q1 q2 m0 m1 m2 HCALL
        go_wp2
        go_roundw
        case rel => exact ⟨j + 1, by omega, by go_num, HJK2, HQ1, HQ2⟩
        case measure => simp [intOf]; omega
    · obtain rfl : j = s.opn.length := by omega
      have hi1 : decide ((s.opn.length : Int) < s.opn.length) = false := by simp
      obtain ⟨WX, hWX⟩ : ∃ WX, WX = wr := ⟨_, rfl⟩
      subst hWX
      have HPM2 : Hid (PM WX x.ms (x.hb (dirAt s.sure (s.opn.take k.toNat)))) := hid (by
        have := HPM.out
        rw [List.take_length] at this
        rw [List.take_of_length_le HJK.out]; exact this)
      exfalso
      have := HJK.out
      omega
set_option maxHeartbeats 2000000 in
theorem dcrash_any {B : Nat} {w : World} {p : Nat} {x : DX} {s : PS} (k : Int) (ts : List Int) (to : Option Addr) (tc : Nat) (h : Dk B w p x s) (hB : B ≤ w.heap.size) (hv : Vec Go.Tum.iv w (.slice to ts.length tc) ts) (hto : ∀ a, to = some a → ts ≠ [] → a.block ∉ x.blk p)
    (hts : ∀ t ∈ ts, -9223372036854775808 ≤ t ∧ t ≤ 9223372036854775807) (hg : Gd (crP s k ts)) :
    Calls Tryz.prog 14 #[pv p, .int .i64 k, .slice to ts.length tc] w fun e w' => (∃ u, e = .returned u) ∧ Stp B w p x (crP s k ts) w' := by
  by_cases hc : s.opn.length ≤ k.toNat
  · exact dcrashA_any k ts to tc h hB hv hto hts hg hc
  · exact dcrashB_any k ts to tc h hB hv hto hts hg (by omega)
end Go.Proofs.YtijpokajhjhllaaGreatDoor

