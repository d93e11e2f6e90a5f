/- The log of segments: Begin, Open, End.
The log of segments: right, Begin, End; what a log is in memory. -/
import Derived.Test.YtmbigiihcplcjaaGreatDoorSegMM
import Derived.Test.YtmbigiihcplcjaaGreatDoorDskMJ
import Derived.Test.YtmbigiihcplcjaaGreatDoorNamMA
import Derived.Test.YtmbigiihcplcjaaGreatDoorRecGC
set_option linter.unusedSimpArgs false
set_option linter.unusedVariables false
set_option maxRecDepth 100000
namespace Go.Proofs.YtmbigiihcplcjaaGreatDoor
open Go Go.RowKit Go.Tum Go.ChangeMaps Go.Tum.Crc Go.Nam

abbrev logO (p : Nat) (g : LG) : Obj := .cells #[pv p, uv g.seg, uv g.at', .int .i64 g.most, uv g.uns, .bool g.beg] 97 (0, 0)
theorem fr_keep {S : List Nat} {w w' : World} (f : Fr S w w') {b : Nat} {o : Obj} (hb : w.heap[b]? = some o) (hn : b ∉ S) : w'.heap[b]? = some o :=
  (f.block b (Array.getElem?_eq_some_iff.1 hb).1 hn).trans hb
/-- A step of the disk: what lies elsewhere stays, and stays elsewhere. -/
theorem Stp.keep {B : Nat} {w w' : World} {p : Nat} {x : DX} {s : PS} (h : Stp B w p x s w') :
    ∃ x', Dk B w' p x' s ∧ Below B w w' ∧ Fr (x.blk p) w w' ∧ (∀ q ∈ x'.blk p, q ∈ x.blk p ∨ w.heap.size ≤ q) ∧ ∀ b o, w.heap[b]? = some o → b ∉ x.blk p → w'.heap[b]? = some o ∧ b ∉ x'.blk p := by
  obtain ⟨x', d, f, bl, q⟩ := h
  refine ⟨x', d, bl, f, q, fun b o hb hn => ⟨fr_keep f hb hn, fun hm => ?_⟩⟩
  have hl := (Array.getElem?_eq_some_iff.1 hb).1
  rcases q b hm with h1 | h1
  · exact hn h1
  · omega
theorem Dk.lt15 {B : Nat} {w : World} {p : Nat} {x : DX} {s : PS} (h : Dk B w p x s) : ∀ q ∈ x.blk p, q < w.heap.size := by
  intro q hq
  have hb : ∀ {b e n s : Nat} {v : Value} {xs : List Value}, w.ownsRow b e s v n xs → ∀ q ∈ oB v, q < w.heap.size := by
    intro b e n s v xs ho q hq
    rcases ho.2 with ⟨hv, -⟩ | ⟨g, cap, cur, hv, hb, hg, -⟩
    · rw [hv] at hq; simp [oB, Value.ownBlock] at hq
    · rw [hv] at hq; simp [oB, Value.ownBlock] at hq; subst hq; exact (Array.getElem?_eq_some_iff.1 hg).1
  unfold DX.blk at hq
  simp only [List.mem_cons, List.mem_append, List.mem_flatMap, List.mem_map] at hq
  rcases hq with rfl | rfl | rfl | (hq | ⟨z, hz, rfl⟩) | ⟨z, hz, hq⟩
  · exact (Array.getElem?_eq_some_iff.1 h.hd).1
  · obtain ⟨es, ck, hb⟩ := h.dr.block; exact (Array.getElem?_eq_some_iff.1 hb).1
  · obtain ⟨es, ck, hb⟩ := h.sr.block; exact (Array.getElem?_eq_some_iff.1 hb).1
  · exact hb h.op q hq
  · obtain ⟨i, hi, rfl⟩ := List.mem_iff_getElem.1 hz
    have := (Array.getElem?_eq_some_iff.1 (h.fi i (by rw [← h.fn]; exact hi)).1).1
    simpa [DX.bk, List.getD_eq_getElem?_getD, hi] using this
  · obtain ⟨i, hi, rfl⟩ := List.mem_iff_getElem.1 hz
    have h2 := (h.fi i (by rw [← h.fn]; exact hi)).2
    have e : x.sv i = x.bl[i].2 := by simp [DX.sv, List.getD_eq_getElem?_getD, hi]
    rw [e] at h2
    exact hb h2 q hq
theorem Dk.new15 {B : Nat} {w : World} {p : Nat} {x : DX} {s : PS} (h : Dk B w p x s) : w.heap.size ∉ x.blk p := fun hm => by have := h.lt15 _ hm; omega
theorem Pw.ext15 {w w' : World} (h : Pw w) (k : Ext w w') : Pw w' := by
  have h2 : (match w.heap[1]? with | some (Obj.cells cs _ _) => some cs | _ => none) = some (List.map (fun z => Value.int IntKind.u64 z) Lib.pow10Tab).toArray := h
  show (match w'.heap[1]? with | some (Obj.cells cs _ _) => some cs | _ => none) = some (List.map (fun z => Value.int IntKind.u64 z) Lib.pow10Tab).toArray
  cases hw : w.heap[1]? with
  | none => rw [hw] at h2; cases h2
  | some o => rw [k.obj hw]; rw [hw] at h2; exact h2
/-- A log's name. -/
theorem ofM_any (n : UInt64) (w : World) (hp : Pw w) : Calls Tryz.prog 57 #[.int .u8 109, uv n] w fun e w' => (n.toNat < 10000000000 → e = .returned (.tuple #[vN (segN n.toNat), .int .i64 0])) ∧ (10000000000 ≤ n.toNat → e = .returned (.tuple #[vN [], .int .i64 1])) ∧ Ext w w' := by
  have h := nof_any 109 n.toNat n.toNat_lt w hp
  refine Calls.mono h ?_
  rintro e w' ⟨rfl, hx⟩
  refine ⟨fun hn => ?_, fun hn => ?_, hx⟩
  · have : ofL 109 n.toNat = (segN n.toNat, 0) := by
      unfold ofL
      rw [if_pos (by simp [hn]; decide)]
    rw [this]
  · have : ofL 109 n.toNat = ([], 1) := by
      unfold ofL
      rw [if_neg (by simp; intro; omega)]
    rw [this]
theorem segN_max {n : Nat} (h : n < 10000000000) : (segN n).length ≤ maxLen := by
  have := (segN_len h).1
  simp [maxLen]; omega
set_option maxHeartbeats 1000000 in
theorem sright_any (p : Nat) (seg : UInt64) (most : Int) (w : World) (hp : Pw w) : Calls Tryz.prog 32 #[pv p, uv seg, .int .i64 most] w fun e w' =>
    (mayB seg most = false → e = .returned (.tuple #[vN [], .int .i64 1])) ∧ (mayB seg most = true → e = .returned (.tuple #[vN (segN seg.toNat), .int .i64 0])) ∧ Ext w w' := by
  have HO := hid (fun w' (h : Pw w') => ofM_any seg w' h)
  have HP := hid hp
  obtain ⟨M, hM⟩ : ∃ M, mayB seg most = M := ⟨_, rfl⟩
  rw [hM]
  unfold mayB at hM
  clear hp
  by_cases h1 : most < 64
  · have e1 : decide (most < 64) = true := by simpa using h1
    have hMf : Hid (M = false) := hid (by rw [← hM, decide_eq_false (show ¬ 64 ≤ most by omega)]; rfl)
    clear hM h1
    go_enter Tryz.func32, Tryz.ntmps32
    go_wp2
    go_returns
    exact ⟨fun _ => rfl, fun h => absurd (h.symm.trans hMf.out) (by decide), Ext.refl _⟩
  have e1 : decide (most < 64) = false := by simpa using h1
  by_cases h2 : 65536 < most
  · have e2 : decide (most > 65536) = true := by simpa using h2
    have hMf : Hid (M = false) := hid (by rw [← hM, decide_eq_false (show ¬ most ≤ 65536 by omega)]; simp)
    clear hM h1 h2
    go_enter Tryz.func32, Tryz.ntmps32
    go_wp2
    go_returns
    exact ⟨fun _ => rfl, fun h => absurd (h.symm.trans hMf.out) (by decide), Ext.refl _⟩
  have e2 : decide (most > 65536) = false := by simpa using h2
  have hM2 : Hid (decide (seg.toNat < 10000000000) = M) := hid (by rw [← hM, decide_eq_true (show 64 ≤ most by omega), decide_eq_true (show most ≤ 65536 by omega)]; rfl)
  clear hM h1 h2
  go_enter Tryz.func32, Tryz.ntmps32
  go_wp2_with fail
  refine Calls.mono (HO.out _ HP.out) ?_
  rintro e w1 ⟨k1, k2, hx⟩
  have HX := hid hx
  by_cases hn : seg.toNat < 10000000000
  · obtain rfl := k1 hn
    have hMt : Hid (M = true) := hid (by rw [← hM2.out]; simpa using hn)
    clear k1 k2 hx e1 e2 hn
    go_wp2
    go_returns
    exact ⟨fun h => absurd (h.symm.trans hMt.out) (by decide), fun _ => rfl, HX.out⟩
  · obtain rfl := k2 (by omega)
    have hMf : Hid (M = false) := hid (by rw [← hM2.out]; simpa using hn)
    clear k1 k2 hx e1 e2 hn
    go_wp2
    go_returns
    exact ⟨fun _ => rfl, fun h => absurd (h.symm.trans hMf.out) (by decide), HX.out⟩
theorem Stp.ext0 {B : Nat} {w w1 w2 : World} {p : Nat} {x : DX} {s s2 : PS} (h : Dk B w p x s) (k : Ext w w1) (hB : B ≤ w.heap.size) (h2 : Stp B w1 p x s2 w2) : Stp B w p x s2 w2 :=
  Stp.after h (Ext.fr k) (k.mono hB) h2
/-- A log, and its disk. -/
structure Lg (B : Nat) (w : World) (p b : Nat) (x : DX) (s : PS) (g : LG) : Prop where
  dk : Dk B w p x s
  lg : w.heap[b]? = some (logO p g)
  nb : b ∉ x.blk p
  lo : B ≤ b
theorem Lg.ext {B : Nat} {w w' : World} {p b : Nat} {x : DX} {s : PS} {g : LG} (h : Lg B w p b x s g) (k : Ext w w') : Lg B w' p b x s g := ⟨h.dk.ext k, k.obj h.lg, h.nb, h.lo⟩
/-- A step of a log: only its block, and its disk's, turn. -/
def LStp (B : Nat) (w : World) (p b : Nat) (x : DX) (s' : PS) (g' : LG) (w' : World) : Prop := ∃ x', Lg B w' p b x' s' g' ∧ Fr (b :: x.blk p) w w' ∧ Below B w w' ∧ ∀ q ∈ x'.blk p, q ∈ x.blk p ∨ w.heap.size ≤ q
section
variable {B : Nat} {w w1 w' : World} {p b : Nat} {x x1 : DX} {s s' : PS} {g g' : LG}
theorem Lg.same (h : Lg B w p b x s g) (k : Ext w w') (hB : B ≤ w.heap.size) : LStp B w p b x s g w' := ⟨x, h.ext k, Ext.fr k, k.mono hB, fun q hq => .inl hq⟩
/-- The disk's step is the log's. -/
theorem Lg.step (h : Lg B w p b x s g) (k : Stp B w p x s' w') : LStp B w p b x s' g w' := by
  obtain ⟨x', d, bl, f, q, kp⟩ := k.keep
  obtain ⟨h1, h2⟩ := kp b _ h.lg h.nb
  exact ⟨x', ⟨d, h1, h2, h.lo⟩, f.mono (fun c hc => List.mem_cons_of_mem _ hc), bl, q⟩
theorem LStp.trans (h : LStp B w p b x s g w1) (k : ∀ x1, Lg B w1 p b x1 s g → LStp B w1 p b x1 s' g' w') : LStp B w p b x s' g' w' := by
  obtain ⟨x1, l1, f1, b1, q1⟩ := h
  obtain ⟨x2, l2, f2, b2, q2⟩ := k x1 l1
  refine ⟨x2, l2, ⟨f2.os.trans f1.os, f2.tape.trans f1.tape, f2.output.trans f1.output, Nat.le_trans f1.size f2.size, fun j hj hn => (f2.block j (Nat.lt_of_lt_of_le hj f1.size) fun hm => ?_).trans (f1.block j hj hn)⟩, b1.trans b2, fun c hc => ?_⟩
  · rcases List.mem_cons.1 hm with rfl | hm
    · exact hn (by simp)
    · rcases q1 j hm with k | k
      · exact hn (List.mem_cons_of_mem _ k)
      · omega
  · rcases q2 c hc with k | k
    · exact q1 c k
    · exact .inr (Nat.le_trans f1.size k)
end
end Go.Proofs.YtmbigiihcplcjaaGreatDoor

set_option linter.unusedSimpArgs false
set_option linter.unusedVariables false
set_option maxRecDepth 100000
namespace Go.Proofs.YtmbigiihcplcjaaGreatDoor
open Go Go.RowKit Go.Tum Go.ChangeMaps Go.Tum.Crc Go.Nam

def BegR (B : Nat) (w : World) (p : Nat) (x : DX) (r : Option LG × Nat × PS) (e : Ending) (w' : World) : Prop :=
  (r.1 = none → e = .returned (.tuple #[.pointer none, .int .i64 (r.2.1 : Nat)]) ∧ Stp B w p x r.2.2 w') ∧
  ∀ g, r.1 = some g → ∃ b x', e = .returned (.tuple #[pv b, .int .i64 0]) ∧ Lg B w' p b x' r.2.2 g ∧ w.heap.size ≤ b ∧ Fr (x.blk p) w w' ∧ Below B w w' ∧ ∀ q ∈ x'.blk p, q ∈ x.blk p ∨ w.heap.size ≤ q
theorem BegR.no {B : Nat} {w : World} {p : Nat} {x : DX} {n : Nat} {s : PS} {w' : World} (h : Stp B w p x s w') : BegR B w p x (none, n, s) (.returned (.tuple #[.pointer none, .int .i64 (n : Nat)])) w' := ⟨fun _ => ⟨rfl, h⟩, fun g hg => by cases hg⟩
theorem BegR.yes {B : Nat} {w w1 : World} {p : Nat} {x : DX} {n : Nat} {s : PS} {g : LG} (h : Stp B w p x s w1) (hB : B ≤ w.heap.size) : BegR B w p x (some g, n, s) (.returned (.tuple #[pv w1.heap.size, .int .i64 0])) (w1.alloc (logO p g)) := by
  refine ⟨fun h => (by cases h), fun g' hg => ?_⟩
  cases hg
  obtain ⟨x', d, bl, f, q, -⟩ := h.keep
  exact ⟨_, x', rfl, ⟨d.ext (Ext.alloc _ _), heap_alloc_new _ _, d.new15, Nat.le_trans hB f.size⟩, f.size, f.trans (Ext.fr (Ext.alloc _ _)), Below.trans bl ((Ext.alloc _ _).mono (Nat.le_trans hB f.size)), q⟩
set_option maxHeartbeats 1000000 in
theorem sbegin_any {B : Nat} {w : World} {p : Nat} {x : DX} {s : PS} (seg : UInt64) (most : Int) (h : Dk B w p x s) (hB : B ≤ w.heap.size) (hw : WF s) (hl : s.opn.length ≤ 100000) (hp : Pw w) :
    Calls Tryz.prog 10 #[pv p, uv seg, .int .i64 most] w fun e w' => BegR B w p x (beginG s seg most) e w' := by
  have HP := hid hp
  have H := hid h
  have HB := hid hB
  have HL := hid hl
  obtain ⟨R, hR⟩ : ∃ R, beginG s seg most = R := ⟨_, rfl⟩
  rw [hR]
  unfold beginG at hR
  have HG := hid (hw.cre (segN seg.toNat)).gd
  have HR := hid hR
  clear h hB hw hl hp hR
  go_enter Tryz.func10, Tryz.ntmps10
  go_wp2_with fail
  refine Calls.mono (sright_any p seg most w HP.out) ?_
  rintro e w1 ⟨k1, k2, hx⟩
  have HX := hid hx
  cases hm : mayB seg most with
  | false =>
    obtain rfl := k1 hm
    have HQ : Hid (R = (none, 1, s)) := hid (by rw [← HR.out, hm, if_pos rfl])
    clear k1 k2 hx hm
    go_wp2
    go_returns
    rw [HQ.out]
    exact BegR.no (Stp.same H.out HX.out HB.out)
  | true =>
    obtain rfl := k2 hm
    have hsg : seg.toNat < 10000000000 := by
      unfold mayB at hm
      simp only [Bool.and_eq_true, decide_eq_true_eq] at hm
      exact hm.2.2
    have HSG := hid hsg
    have HQ := HR
    rw [hm, if_neg (by decide)] at HQ
    clear k1 k2 hx hm hsg HR
    go_wp2_with fail
    refine Calls.mono (dcreate_any (segN seg.toNat) (segN_max HSG.out) (H.out.ext HX.out) (Nat.le_trans HB.out HX.out.size) HG.out HL.out) ?_
    rintro e w2 ⟨rfl, hs⟩
    have hs2 := Stp.ext0 H.out HX.out HB.out hs
    have HS := hid hs2
    clear hs hs2
    obtain ⟨C, hC⟩ : ∃ C, creP s (segN seg.toNat) = C := ⟨_, rfl⟩
    rw [hC] at HS HQ
    try rw [hC]
    obtain ⟨c, s2⟩ := C
    clear hC HG
    dsimp only at HS HQ ⊢
    by_cases hc : c = 0
    · subst hc
      have HQ2 : Hid (R = (some ⟨seg, 0, most, seg, true⟩, 0, s2)) := hid (by rw [← HQ.out, if_neg (by simp)])
      clear HQ
      go_wp2
      go_returns
      rw [HQ2.out]
      exact BegR.yes HS.out HB.out
    · have hc1 : ((c : Int) != 0) = true := by simp; omega
      have HQ2 : Hid (R = (none, c, s2)) := hid (by rw [← HQ.out, if_pos hc])
      clear HQ hc
      go_wp2
      go_returns
      rw [HQ2.out]
      exact BegR.no HS.out
theorem rd_len15 {s : PS} (h : Gd s) (n : Nm) : (rdB s n).length ≤ 1048576 := by
  unfold rdB
  split
  · simp
  · split
    · simp
    · rename_i f _
      rw [List.getD_eq_getElem?_getD]
      cases hf : s.files[f]? with
      | none => simp
      | some y => exact (h.fl y (List.mem_of_getElem? hf)).2
set_option maxHeartbeats 1000000 in
theorem sopen_any {B : Nat} {w : World} {p : Nat} {x : DX} {s : PS} (seg at' : UInt64) (most : Int) (h : Dk B w p x s) (hB : B ≤ w.heap.size) (hw : WF s) (hp : Pw w) :
    Calls Tryz.prog 30 #[pv p, uv seg, uv at', .int .i64 most] w fun e w' => BegR B w p x (openG s seg at' most) e w' := by
  have HP := hid hp
  have H := hid h
  have HB := hid hB
  obtain ⟨R, hR⟩ : ∃ R, openG s seg at' most = R := ⟨_, rfl⟩
  rw [hR]
  unfold openG at hR
  have HW := hid hw
  have HR := hid hR
  clear h hB hw hp hR
  go_enter Tryz.func30, Tryz.ntmps30
  go_wp2_with fail
  refine Calls.mono (sright_any p seg most w HP.out) ?_
  rintro e w1 ⟨k1, k2, hx⟩
  have HX := hid hx
  cases hm : mayB seg most with
  | false =>
    obtain rfl := k1 hm
    have HQ : Hid (R = (none, 1, s)) := hid (by rw [← HR.out, hm, if_pos rfl])
    clear k1 k2 hx hm
    go_wp2
    go_returns
    rw [HQ.out]
    exact BegR.no (Stp.same H.out HX.out HB.out)
  | true =>
    obtain rfl := k2 hm
    have hsg : seg.toNat < 10000000000 := by
      unfold mayB at hm
      simp only [Bool.and_eq_true, decide_eq_true_eq] at hm
      exact hm.2.2
    have HSG := hid hsg
    have HQ := HR
    rw [hm, if_neg (by decide)] at HQ
    clear k1 k2 hx hm hsg HR
    go_wp2_with fail
    refine Calls.mono (dread_any (segN seg.toNat) (segN_max HSG.out) (H.out.ext HX.out)) ?_
    rintro e w2 ⟨⟨v, rfl, ho⟩, hx2⟩
    have HX2 := hid (HX.out.trans hx2)
    obtain ⟨vo, vc, rfl⟩ := row_shape ho
    have HLEN := hid (rd_len15 HW.out.gd (segN seg.toNat))
    obtain ⟨c, hc⟩ : ∃ c, rdE s (segN seg.toNat) = c := ⟨_, rfl⟩
    obtain ⟨n, hn⟩ : ∃ n, (rdB s (segN seg.toNat)).length = n := ⟨_, rfl⟩
    rw [hc, hn] at HQ
    rw [hn] at HLEN
    try rw [hc]
    try rw [hn]
    clear ho hx2 hc hn
    by_cases hc0 : c = 0
    case neg =>
      have hc1 : ((c : Int) != 0) = true := by simp; omega
      have HQ2 : Hid (R = (none, c, s)) := hid (by rw [← HQ.out, if_pos hc0])
      clear HQ hc0
      go_wp2
      go_returns
      rw [HQ2.out]
      exact BegR.no (Stp.same H.out HX2.out HB.out)
    subst hc0
    rw [if_neg (by simp)] at HQ
    have hnw : IntKind.u64.wrap (n : Int) = (n : Int) := by rw [IntKind.wrap_u64]; have := HLEN.out; omega
    by_cases h1 : n < at'.toNat
    · have d1 : decide (n < at'.toNat) = true := by simpa using h1
      have HQ2 : Hid (R = (none, 3, s)) := hid (by rw [← HQ.out, if_pos h1])
      clear HQ h1
      go_wp2
      go_returns
      rw [HQ2.out]
      exact BegR.no (Stp.same H.out HX2.out HB.out)
    have d1 : decide (n < at'.toNat) = false := by simpa using h1
    rw [if_neg h1] at HQ
    have hsw : IntKind.u64.wrap ((seg.toNat : Int) + 1) = ((seg + 1).toNat : Int) := by
      rw [IntKind.wrap_u64, UInt64.toNat_add, show (1 : UInt64).toNat = 1 from rfl]; omega
    by_cases h2 : at'.toNat < n
    · have d2 : decide (at'.toNat < n) = true := by simpa using h2
      rw [if_pos h2] at HQ
      have haw : IntKind.i64.wrap (at'.toNat : Int) = (at'.toNat : Int) := IntWalk.i64_in _ (by have := HLEN.out; omega)
      clear h1 h2
      go_wp2_with fail
      refine Calls.mono (dcut_any (segN seg.toNat) (at'.toNat : Int) (segN_max HSG.out) (H.out.ext HX2.out) (Nat.le_trans HB.out HX2.out.size) (HW.out.cut _ _).gd) ?_
      rintro e w3 ⟨rfl, hs⟩
      have hs2 := Stp.ext0 H.out HX2.out HB.out hs
      have HS := hid hs2
      clear hs hs2
      obtain ⟨C, hC⟩ : ∃ C, cutP s (segN seg.toNat) (at'.toNat : Int) = C := ⟨_, rfl⟩
      rw [hC] at HS HQ
      try rw [hC]
      obtain ⟨c, s2⟩ := C
      clear hC
      dsimp only at HS HQ ⊢
      by_cases hc : c = 0
      · subst hc
        have HQ2 : Hid (R = (some ⟨seg, at', most, seg + 1, false⟩, 0, s2)) := hid (by rw [← HQ.out, if_neg (by simp)])
        clear HQ d1 d2 hnw haw
        go_wp2
        go_returns
        rw [HQ2.out]
        exact BegR.yes HS.out HB.out
      · have hc1 : ((c : Int) != 0) = true := by simp; omega
        have HQ2 : Hid (R = (none, c, s2)) := hid (by rw [← HQ.out, if_pos hc])
        clear HQ hc d1 d2 hnw haw
        go_wp2
        go_returns
        rw [HQ2.out]
        exact BegR.no HS.out
    · have d2 : decide (at'.toNat < n) = false := by simpa using h2
      have HQ2 : Hid (R = (some ⟨seg, at', most, seg + 1, false⟩, 0, s)) := hid (by rw [← HQ.out, if_neg h2])
      clear HQ h1 h2
      go_wp2
      go_returns
      rw [HQ2.out]
      exact BegR.yes (Stp.same H.out HX2.out HB.out) HB.out
theorem blk6 {w : World} {b : Nat} {v0 v1 v2 v3 v4 v5 : Value} {ty : TypeId} (h : w.heap[b]? = some (.cells #[v0, v1, v2, v3, v4, v5] ty (0, 0))) :
    w.cell? ⟨b, 0, none⟩ = some v0 ∧ w.cell? ⟨b, 1, none⟩ = some v1 ∧ w.cell? ⟨b, 2, none⟩ = some v2 ∧ w.cell? ⟨b, 3, none⟩ = some v3 ∧ w.cell? ⟨b, 4, none⟩ = some v4 ∧ w.cell? ⟨b, 5, none⟩ = some v5 ∧ ∀ i, w.frozen? ⟨b, i, none⟩ = false := by
  obtain ⟨⟨a0, a1, a2, a3, a4, a5⟩, f⟩ := lk6 h
  exact ⟨a0, a1, a2, a3, a4, a5, f⟩
theorem send_any {B : Nat} {w : World} {p b : Nat} {x : DX} {s : PS} {g : LG} (h : Lg B w p b x s g) :
    Calls Tryz.prog 21 #[pv b] w fun e w' => e = .returned (.tuple #[uv g.seg, uv g.at']) ∧ Ext w w' := by
  obtain ⟨c0, c1, c2, c3, c4, c5, -⟩ := blk6 h.lg
  clear h
  go_enter Tryz.func21, Tryz.ntmps21
  go_wp2_with fail
  go_quiet (fail)
  go_wp2
  go_returns
  exact ⟨rfl, by first | exact Ext.refl _ | exact Ext.drewN _ _ | exact Ext.drew _⟩
end Go.Proofs.YtmbigiihcplcjaaGreatDoor

