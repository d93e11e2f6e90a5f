/- For every input the law RootDoes returns true and leaves what was there as it was; and its card.
RootDoes: the law's own, named; its acts.
RootDoes.
Layer 16's acts as arguments, with the sizes of what lies in them. -/
import Derived.Test.YtijpokajhjhllaaGreatDoorRotMR
import Derived.Test.YtijpokajhjhllaaGreatDoorRotMX
import Derived.Test.YtijpokajhjhllaaGreatDoorDskMD
import Derived.Test.YtijpokajhjhllaaGreatDoorDskSm
import Derived.Deep.CutBlock
import Derived.SizedLaws
import Derived.Test.YtijpokajhjhllaaGreatDoorCards
import Derived.Test.YtijpokajhjhllaaGreatDoorTie
import Derived.WalkKit
import Derived.ProofKit
import Derived.OpenShut
import Derived.Below
import Derived.Deep.DeepHandedRow
import Derived.Lib.LaidTab
import Derived.Test.YtijpokajhjhllaaGreatDoorFrame
import Derived.Lib.SmallJoins
set_option linter.unusedSimpArgs false
set_option linter.unusedVariables false
set_option maxRecDepth 100000
namespace Go.Proofs.YtijpokajhjhllaaGreatDoor
open Go Go.RowKit Go.Tum Go.ChangeMaps Go.Tum.Crc Go.Tum.Vint

theorem own16_results (tmps : Array Value) (w : World) (B : Nat) (v0 v1 v2 v3 v4 : Value) (h2 : tmps.getD 2 undef = .pointer (some ⟨B, 0, none⟩)) (m : w.heap[B]? = some (.cells #[v0, v1, v2, v3, v4] 42 (0, 0))) :
    (results Tryz.f9 tmps).run Tryz.prog w = .ok (.agg #[v0, v1, v2, v3, v4]) w := by
  have h2' : tmps[2]?.getD undef = .pointer (some ⟨B, 0, none⟩) := by simpa using h2
  obtain ⟨m0, m1, m2, m3, m4, -⟩ := blk5 m
  simp [results, Tryz.results9, go_sem, h2', m0, m1, m2, m3, m4]
set_option maxHeartbeats 2000000 in
theorem own16_any (q : Rt) (w : World) : Calls Tryz.prog 9 #[rtV q] w fun e w' => e = .returned (rtV q) ∧ Ext w w' := by
  obtain ⟨gen, l, p, d, s⟩ := q
  obtain ⟨W0, hW0⟩ : ∃ W, w.alloc (.cells #[uv gen, .int .i64 l, .int .i64 p, .int .i64 d, .int .i64 s] 35 (0, 0)) = W := ⟨_, rfl⟩
  have hE0 := Ext.alloc w (.cells #[uv gen, .int .i64 l, .int .i64 p, .int .i64 d, .int .i64 s] 35 (0, 0))
  have hb0 := heap_alloc_new w (.cells #[uv gen, .int .i64 l, .int .i64 p, .int .i64 d, .int .i64 s] 35 (0, 0))
  rw [hW0] at hE0 hb0
  obtain ⟨W1, hW1⟩ : ∃ W, W0.alloc (.cells #[.int .u64 0, .int .i64 0, .int .i64 0, .int .i64 0, .int .i64 0] 42 (0, 0)) = W := ⟨_, rfl⟩
  have hE1 := Ext.alloc W0 (.cells #[.int .u64 0, .int .i64 0, .int .i64 0, .int .i64 0, .int .i64 0] 42 (0, 0))
  have hb1 := heap_alloc_new W0 (.cells #[.int .u64 0, .int .i64 0, .int .i64 0, .int .i64 0, .int .i64 0] 42 (0, 0))
  rw [hW1] at hE1 hb1
  obtain ⟨m0, m1, m2, m3, m4, mf⟩ := blk5 (hE1.obj hb0)
  obtain ⟨k0, k1, k2, k3, k4, kf⟩ := blk5 hb1
  have HB1 := hid hb1
  have HE1 := hid (hE0.trans hE1)
  have HS0 := hid hE0.size
  clear hE0 hb0 hE1 hb1
  go_enter Tryz.func9, Tryz.ntmps9
  go_wp2_with (first | rw [hW0] | rw [hW1] | (refine bodyPost_ret (own16_results _ _ _ _ _ _ _ _ rfl (set5 HB1.out _ _ _ _ _)) rfl ?_; exact ⟨rfl, ext5 _ _ _ _ _ HE1.out HS0.out⟩))
/-- The file that an act speaks of. -/
def nmd (a : Ar) : Nm := if a.name = [] then nFresh else a.name
theorem lk10 {w : World} {b : Nat} {v0 v1 v2 v3 v4 v5 v6 v7 v8 v9 : Value} {ty : TypeId} (h : w.heap[b]? = some (.cells #[v0, v1, v2, v3, v4, v5, v6, v7, v8, v9] ty (0, 0))) :
    (w.cell? ⟨b, 0, none⟩ = some v0 ∧ w.cell? ⟨b, 1, none⟩ = some v1 ∧ w.cell? ⟨b, 2, none⟩ = some v2 ∧ w.cell? ⟨b, 3, none⟩ = some v3 ∧ w.cell? ⟨b, 4, none⟩ = some v4 ∧ w.cell? ⟨b, 5, none⟩ = some v5 ∧ w.cell? ⟨b, 6, none⟩ = some v6 ∧ w.cell? ⟨b, 7, none⟩ = some v7 ∧ w.cell? ⟨b, 8, none⟩ = some v8 ∧ w.cell? ⟨b, 9, none⟩ = some v9) ∧ ∀ i, w.frozen? ⟨b, i, none⟩ = false := by
  refine ⟨⟨?_, ?_, ?_, ?_, ?_, ?_, ?_, ?_, ?_, ?_⟩, fun i => by simp [World.frozen?, h]⟩ <;> (rw [cell_of_row _ _ _ _ _ _ h]; rfl)
abbrev arC (q : ArV) : Array Value := #[.int .i64 q.1.dn, .int .i64 q.1.n, uv q.1.r.gen, .int .i64 q.1.r.lanes, .int .i64 q.1.r.pay, .int .i64 q.1.r.del, .int .i64 q.1.r.seg, q.2.1, vN q.1.name, q.2.2]
set_option maxHeartbeats 2000000 in
theorem named16_any (dn n : Int) (g : UInt64) (l p d s : Int) (ts : List Int) (nm : Nm) (b : List UInt8) (tq bo : Option Addr) (tn tc bn bc : Nat) (w : World) :
    Calls Tryz.prog 17 #[.agg #[.int .i64 dn, .int .i64 n, uv g, .int .i64 l, .int .i64 p, .int .i64 d, .int .i64 s, .slice tq tn tc, vN nm, .slice bo bn bc]] w fun e w' => e = .returned (vN (nmd ⟨dn, n, ⟨g, l, p, d, s⟩, ts, nm, b⟩)) ∧ Ext w w' := by
  obtain ⟨W0, hW0⟩ : ∃ W, w.alloc (.cells #[.int .i64 dn, .int .i64 n, uv g, .int .i64 l, .int .i64 p, .int .i64 d, .int .i64 s, .slice tq tn tc, vN nm, .slice bo bn bc] 39 (0, 0)) = W := ⟨_, rfl⟩
  have hE0 := Ext.alloc w (.cells #[.int .i64 dn, .int .i64 n, uv g, .int .i64 l, .int .i64 p, .int .i64 d, .int .i64 s, .slice tq tn tc, vN nm, .slice bo bn bc] 39 (0, 0))
  have hb0 := heap_alloc_new w (.cells #[.int .i64 dn, .int .i64 n, uv g, .int .i64 l, .int .i64 p, .int .i64 d, .int .i64 s, .slice tq tn tc, vN nm, .slice bo bn bc] 39 (0, 0))
  rw [hW0] at hE0 hb0
  obtain ⟨⟨k0, k1, k2, k3, k4, k5, k6, k7, k8, k9⟩, kf⟩ := lk10 hb0
  have HE0 := hid hE0
  clear hE0 hb0
  by_cases h : nm = []
  · have HN : Hid (nmd ⟨dn, n, ⟨g, l, p, d, s⟩, ts, nm, b⟩ = nFresh) := hid (if_pos h)
    have he : (nm == []) = true := by simpa using h
    subst h
    go_enter Tryz.func17, Tryz.ntmps17
    go_wp2_with (first | rw [hW0] | fail)
    go_returns
    exact ⟨by rw [HN.out]; rfl, HE0.out⟩
  · have HN : Hid (nmd ⟨dn, n, ⟨g, l, p, d, s⟩, ts, nm, b⟩ = nm) := hid (if_neg h)
    have he : (nm == []) = false := by simpa using h
    clear h
    go_enter Tryz.func17, Tryz.ntmps17
    go_wp2_with (first | rw [hW0] | fail)
    go_returns
    exact ⟨by rw [HN.out]; rfl, HE0.out⟩
/-- An act: what is answered, the disk behind it, the root that is read. -/
def actR (s : PS) (a : Ar) : Int × PS × Rt :=
  if a.dn = 0 then (((wrP s a.r).1 : Nat), (wrP s a.r).2, rt0) else if a.dn = 1 then ((rdAll s).2, s, (rdAll s).1) else if a.dn = 2 then (0, fusP s a.n, rt0)
  else if a.dn = 3 then (0, crP s a.n a.ts, rt0) else if a.dn = 4 then (((appP (creP s (nmd a)).2 (nmd a) a.b).1 : Nat), (appP (creP s (nmd a)).2 (nmd a) a.b).2, rt0)
  else (((dsyP (synP s nRoot).2).1 : Nat), (dsyP (synP s nRoot).2).2, rt0)
theorem actR_gr (s : PS) (a : Ar) (hn : i64 a.n) : (WF s → WF (actR s a).2.1) ∧ (actR s a).2.1.opn.length ≤ s.opn.length + 6 ∧ (actR s a).2.1.files.length ≤ s.files.length + 6 := by
  have two : ∀ {s1 s2 s3 : PS}, Gr s1 s2 → Gr s2 s3 → (WF s1 → WF s3) ∧ s3.opn.length ≤ s1.opn.length + 6 ∧ s3.files.length ≤ s1.files.length + 6 := fun h k => ⟨fun w => k.1 (h.1 w), by have := h.2.1; have := k.2.1; omega, by have := h.2.2; have := k.2.2; omega⟩
  unfold actR
  repeat' split
  · exact wr_gr s a.r
  · exact ⟨id, Nat.le_add_right _ 6, Nat.le_add_right _ 6⟩
  · exact two (gr_fus s a.n hn.2) (Gr.same _)
  · exact two (gr_cra s a.n a.ts) (Gr.same _)
  · exact two (gr_cre s (nmd a)) (gr_app _ _ _)
  · exact two (gr_syn s nRoot) (gr_dsy _)
end Go.Proofs.YtijpokajhjhllaaGreatDoor

set_option linter.unusedSimpArgs false
set_option linter.unusedVariables false
set_option maxRecDepth 100000
namespace Go.Proofs.YtijpokajhjhllaaGreatDoor
open Go Go.RowKit Go.Tum Go.ChangeMaps Go.Tum.Crc Go.Tum.Vint
open Go.ParB (upd Lof)
open Go.ParE (putS slotsR slots Closed)

abbrev oR1 (q : Rt) : Obj := .cells #[uv q.gen, .int .i64 q.lanes, .int .i64 q.pay, .int .i64 q.del, .int .i64 q.seg] 35 (0, 0)
theorem nkS_cells {cs : Array Value} {ty : TypeId} (h : ty ≠ 65 ∧ ty ≠ 98 ∧ ty ≠ 72 ∧ ty ≠ 100 ∧ ty ≠ 5) : NkS (.cells cs ty (0, 0)) := fun cs2 e he hc => by
  simp only [Obj.cells.injEq] at hc
  obtain ⟨-, rfl, -⟩ := hc
  rcases he with h2 | h2 | h2 | h2 | h2
  · exact h.1 h2
  · exact h.2.1 h2
  · exact h.2.2.1 h2
  · exact h.2.2.2.1 h2
  · exact h.2.2.2.2 h2
theorem NkS.nk {o : Obj} (h : NkS o) : NkO o := fun cs e he => h cs e (by rcases he with h | h <;> simp [h])
theorem nkAct (cs : Array Value) : NkS (.cells cs 39 (0, 0)) := nkS_cells (by decide)
theorem nkR1 (cs : Array Value) : NkS (.cells cs 35 (0, 0)) := nkS_cells (by decide)
theorem nkR2 (cs : Array Value) : NkS (.cells cs 42 (0, 0)) := nkS_cells (by decide)
theorem Ext.ofB {w w1 w2 : World} (h : Ext w w1) (k : Below w.heap.size w1 w2) : Ext w w2 := Below.trans h k
theorem rsames_self16 (u v : Value) (l : List Nm) (w : World) (hb : Vec vN w u l) (hc : Vec vN w v l) :
    Calls Tryz.prog 27 #[u, v] w fun e w' => e = .returned (.bool true) ∧ Ext w w' := by
  have := rsames_any u v l l w hb hc
  simpa using this
/-- What the two disks, and the boxes, are behind an act. -/
structure Aft (w wx : World) (p r ab b1 b2 : Nat) (oA : Obj) (s' : PS) (q' : Rt) (k : Nat) : Prop where
  b : BDE w.heap.size wx p s' r s' [(ab, oA), (b1, oR1 q'), (b2, rtO16 q')]
  e : Ext w wx
  f : WF s'
  o : s'.opn.length ≤ 6 * (k + 1)
  l : s'.files.length ≤ 6 * (k + 1)
theorem aftOf {w wx : World} {p r ab b1 b2 : Nat} {oA : Obj} {s s' : PS} {q' : Rt} {k : Nat} (h : BDE w.heap.size wx p s' r s' [(ab, oA), (b1, oR1 q'), (b2, rtO16 q')]) (e : Ext w wx) (hw : WF s ∧ s.opn.length ≤ 6 * k ∧ s.files.length ≤ 6 * k)
    (g : (WF s → WF s') ∧ s'.opn.length ≤ s.opn.length + 6 ∧ s'.files.length ≤ s.files.length + 6) : Aft w wx p r ab b1 b2 oA s' q' k := ⟨h, e, g.1 hw.1, by have := g.2.1; have := hw.2.1; omega, by have := g.2.2; have := hw.2.2; omega⟩
theorem aft0 {w wx : World} {p r ab b1 b2 : Nat} {oA : Obj} {s s' : PS} {k : Nat} (h : BDE w.heap.size wx p s' r s' [(ab, oA), (b1, .cells #[.int .u64 0, .int .i64 0, .int .i64 0, .int .i64 0, .int .i64 0] 35 (0, 0)), (b2, .cells #[.int .u64 0, .int .i64 0, .int .i64 0, .int .i64 0, .int .i64 0] 42 (0, 0))]) (e : Ext w wx) (hw : WF s ∧ s.opn.length ≤ 6 * k ∧ s.files.length ≤ 6 * k)
    (g : (WF s → WF s') ∧ s'.opn.length ≤ s.opn.length + 6 ∧ s'.files.length ≤ s.files.length + 6) : Aft w wx p r ab b1 b2 oA s' rt0 k := aftOf h e hw g
theorem gr6 {s1 s2 s3 : PS} (h : Gr s1 s2) (k : Gr s2 s3) : (WF s1 → WF s3) ∧ s3.opn.length ≤ s1.opn.length + 6 ∧ s3.files.length ≤ s1.files.length + 6 := ⟨fun w => k.1 (h.1 w), by have := h.2.1; have := k.2.1; omega, by have := h.2.2; have := k.2.2; omega⟩
theorem nmd_len (a : Ar) (h : a.name.length ≤ maxLen) : (nmd a).length ≤ maxLen := by
  unfold nmd
  split
  · exact nl.1
  · exact h
set_option maxHeartbeats 8000000 in
theorem rootDoes_law (room : Int) (v : Value) (m : List ArV) (w : World) (hA : ActsR w v m) (ht : Tab w)
    (hsz : ∀ q ∈ m, q.1.ts.length ≤ 140737488355328 ∧ q.1.name.length ≤ 140737488355328 ∧ q.1.b.length ≤ 140737488355328) :
    Calls Tryz.prog 3 #[.int .i64 room, v] w fun e w' => e = .returned (.bool true) ∧ Ext w w' := by
  have HA := hid hA
  have HT := hid ht
  have HSZ := hid hsz
  obtain ⟨hrow, hokk⟩ := hA
  obtain ⟨ao, cap, rfl, hle, hm, hnn, hcell⟩ := hrow.open
  have HNN := hid hnn
  have HCL := hid hcell
  obtain ⟨n, hn⟩ : ∃ n, m.length = n := ⟨_, rfl⟩
  have HN := hid hn
  rw [hn] at hle ⊢
  clear hrow hokk hcell hnn ht hsz hn
  go_enter Tryz.func3, Tryz.ntmps3
  go_wp2_with fail
  refine (awake16_any _ HT.out).mono ?_
  rintro e w1 ⟨rfl, hx⟩
  have HE1 := hid hx
  clear hx
  go_wp2_with fail
  refine (dnew_any w1 w.heap.size HE1.out.size room).mono ?_
  intro e w3 hn
  by_cases hr : 16 ≤ room ∧ room ≤ 1048576
  case neg =>
    obtain ⟨rfl, hE⟩ := hn.1 (by omega)
    have HE3 := hid (HE1.out.trans hE)
    clear hn hE
    go_wp2_with fail
    refine (rnew_any w3 w.heap.size HE3.out.size room).mono ?_
    intro e w4 hn
    obtain ⟨rfl, hE⟩ := hn.1 (by omega)
    have HE4 := hid (HE3.out.trans hE)
    clear hn hE hr
    go_wp2
    go_ret
    exact ⟨rfl, HE4.out⟩
  obtain ⟨p, xa0, rfl, D, E, hnw⟩ := hn.2 hr.1 hr.2
  have HR : Hid (16 ≤ room ∧ room ≤ 1048576) := hid hr
  have HE3 := hid (HE1.out.trans E)
  have HD3 := hid D
  clear hn hr D E HE1 hnw
  go_wp2_with fail
  refine (rnew_any w3 w.heap.size HE3.out.size room).mono ?_
  intro e w4 hn
  obtain ⟨r, y0, rfl, hG, E, hnw⟩ := hn.2 HR.out.1 HR.out.2
  have HE4 := hid (HE3.out.trans E)
  have HB4 : Hid (BDE w.heap.size w4 p (newP room.toNat) r (newP room.toNat) []) := by
    refine hid ⟨xa0, y0, HD3.out.ext E, hG, ?_, ?_, HE4.out.size⟩
    · intro q hq v hv
      have := hG.fn
      have h0 : (newP room.toNat).files.length = 0 := rfl
      rw [h0] at this
      rw [List.length_eq_zero_iff.1 this] at hv
      cases hv
    · exact fun z hz => absurd hz (by simp)
  have HW4 : Hid (WF (newP room.toNat)) := hid (wf_new (by have := HR.out; omega))
  clear hn E HE3 HD3 hnw hG HR
  by_cases hl40 : 40 < n
  · have d40 : decide ((40 : Int) < (n : Int)) = true := by simp; omega
    go_wp2
    go_ret
    exact ⟨rfl, HE4.out⟩
  have d40 : decide ((40 : Int) < (n : Int)) = false := by simp; omega
  have d40' : (40 < n) = False := by simp; omega
  have HL40 := hid hl40
  clear hl40
  go_wp2
  clear d40 d40'
  go_loopw [40] (fun i wr => ∃ (k : Nat) (s : PS), k ≤ n ∧ i = .int .i64 (k : Int) ∧ Hid (WF s ∧ s.opn.length ≤ 6 * k ∧ s.files.length ≤ 6 * k) ∧ Hid (BDE w.heap.size wr p s r s []) ∧ Hid (Ext w wr)) (fun i _ => n - (intOf i).toNat)
  case atStart => exact ⟨0, _, by omega, rfl, hid ⟨HW4.out, by simp [newP], by simp [newP]⟩, HB4, HE4⟩
  case round =>
    clear HW4 HB4 HE4
    obtain ⟨k, s, hk, rfl, HW, HB, HE⟩ := hrel
    by_cases hlt : k < n
    · have hkj : decide ((k : Int) < (n : Int)) = true := by simp; omega
      have hkj2 : (k : Int) < (n : Int) := by omega
      obtain ⟨a0, rfl⟩ := HNN.out (by omega)
      have hltL : k < m.length := by rw [HN.out]; exact hlt
      have hc := fun j u h => HE.out.cell (HCL.out a0 rfl k hltL j u h)
      have hok := HA.out.2 _ (List.getElem_mem hltL)
      have hsq := HSZ.out _ (List.getElem_mem hltL)
      obtain ⟨q, hq⟩ : ∃ q, m[k]'hltL = q := ⟨_, rfl⟩
      rw [hq] at hc hok hsq
      clear hq
      obtain ⟨⟨dn, nn, ⟨gen, l, pa, de, se⟩, ts, nm, b⟩, tv, bv⟩ := q
      have HOK := hid hok
      have hot := hok.t
      have hob := hok.b
      dsimp only at hot hob hsq
      obtain ⟨tq, tc, rfl, -⟩ := hot.open
      obtain ⟨bo, bc, rfl, -⟩ := hob.open
      have hsn := str_size nm
      obtain ⟨tn, htn⟩ : ∃ x, ts.length = x := ⟨_, rfl⟩
      obtain ⟨nl9, hnl⟩ : ∃ x, nm.length = x := ⟨_, rfl⟩
      obtain ⟨bn, hbn⟩ : ∃ x, b.length = x := ⟨_, rfl⟩
      try dsimp only at hc
      rw [htn, hnl, hbn] at hsq
      rw [hnl] at hsn
      have HTN := hid (And.intro htn (And.intro hnl hbn))
      have HOT : Hid (Vec Go.Tum.iv w (.slice tq tn tc) ts) := hid (by rw [← htn]; exact HOK.out.t)
      have HOB : Hid (Byt w (.slice bo bn bc) b) := hid (by rw [← hbn]; exact HOK.out.b)
      rw [htn, hbn] at hc
      have k0 := cell_first (hc 0 _ rfl)
      have k1 := cell_next (hc 1 _ rfl) (by decide)
      have k2 := cell_next (hc 2 _ rfl) (by decide)
      have k3 := cell_next (hc 3 _ rfl) (by decide)
      have k4 := cell_next (hc 4 _ rfl) (by decide)
      have k5 := cell_next (hc 5 _ rfl) (by decide)
      have k6 := cell_next (hc 6 _ rfl) (by decide)
      have k7 := cell_next (hc 7 _ rfl) (by decide)
      have k8 := cell_next (hc 8 _ rfl) (by decide)
      have k9 := cell_next (hc 9 _ rfl) (by decide)
      dsimp only at k0 k1 k2 k3 k4 k5 k6 k7 k8 k9
      obtain ⟨sA, hsA⟩ : ∃ x, tn + nl9 = x := ⟨_, rfl⟩
      obtain ⟨sB, hsB⟩ : ∃ x, sA + bn = x := ⟨_, rfl⟩
      have hwA : IntKind.i64.wrap ((tn : Int) + (nl9 : Int)) = (sA : Int) := by rw [show (tn : Int) + (nl9 : Int) = ((sA : Nat) : Int) by omega]; exact IntWalk.i64_in _ (by omega)
      have hwB : IntKind.i64.wrap ((sA : Int) + (bn : Int)) = (sB : Int) := by rw [show (sA : Int) + (bn : Int) = ((sB : Nat) : Int) by omega]; exact IntWalk.i64_in _ (by omega)
      have hwk : IntKind.i64.wrap ((k : Int) + 1) = ((k + 1 : Nat) : Int) := i64r _ (by omega) (by have := HL40.out; omega)
      have HSB : Hid (sB = tn + nl9 + bn) := hid (by omega)
      obtain ⟨W1, hW1⟩ : ∃ W, wr.alloc (.cells #[.int .i64 dn, .int .i64 nn, uv gen, .int .i64 l, .int .i64 pa, .int .i64 de, .int .i64 se, .slice tq tn tc, vN nm, .slice bo bn bc] 39 (0, 0)) = W := ⟨_, rfl⟩
      have hE1 := Ext.alloc wr (.cells #[.int .i64 dn, .int .i64 nn, uv gen, .int .i64 l, .int .i64 pa, .int .i64 de, .int .i64 se, .slice tq tn tc, vN nm, .slice bo bn bc] 39 (0, 0))
      have hb1 := heap_alloc_new wr (.cells #[.int .i64 dn, .int .i64 nn, uv gen, .int .i64 l, .int .i64 pa, .int .i64 de, .int .i64 se, .slice tq tn tc, vN nm, .slice bo bn bc] 39 (0, 0))
      rw [hW1] at hE1 hb1
      have HLT := hid hlt
      have HEA := hid (HE.out.trans hE1)
      have HBA := hid (HB.out.add hE1 hb1 (Nat.le_refl _) (nkAct _).nk)
      obtain ⟨⟨m0, m1, m2, m3, m4, m5, m6, m7, m8, m9⟩, mf⟩ := lk10 hb1
      obtain ⟨ab, hab⟩ : ∃ q, wr.heap.size = q := ⟨_, rfl⟩
      rw [hab] at HBA m0 m1 m2 m3 m4 m5 m6 m7 m8 m9 mf
      clear hc hok hot hob hltL hlt hE1 hb1 HB HE htn hnl hbn hsA hsB hsq
      by_cases h300 : 300 < sB
      · have d3 : decide ((300 : Int) < (sB : Int)) = true := by simp; omega
        clear h300
        go_wp2_with (first | rw [hW1] | fail)
        go_ret
        exact ⟨rfl, HEA.out⟩
      have d3 : decide ((300 : Int) < (sB : Int)) = false := by simp; omega
      have d3' : (300 < sB) = False := by simp; omega
      have HS300 := hid h300
      clear h300
      obtain ⟨W2, hW2⟩ : ∃ W, W1.alloc (.cells #[.int .u64 0, .int .i64 0, .int .i64 0, .int .i64 0, .int .i64 0] 35 (0, 0)) = W := ⟨_, rfl⟩
      have hE2 := Ext.alloc W1 (.cells #[.int .u64 0, .int .i64 0, .int .i64 0, .int .i64 0, .int .i64 0] 35 (0, 0))
      have hb2 := heap_alloc_new W1 (.cells #[.int .u64 0, .int .i64 0, .int .i64 0, .int .i64 0, .int .i64 0] 35 (0, 0))
      rw [hW2] at hE2 hb2
      obtain ⟨b1, hb1'⟩ : ∃ q, W1.heap.size = q := ⟨_, rfl⟩
      have hbB := HBA.out.add hE2 hb2 (Nat.le_refl _) (nkR1 _).nk
      obtain ⟨W3, hW3⟩ : ∃ W, W2.alloc (.cells #[.int .u64 0, .int .i64 0, .int .i64 0, .int .i64 0, .int .i64 0] 42 (0, 0)) = W := ⟨_, rfl⟩
      have hE3 := Ext.alloc W2 (.cells #[.int .u64 0, .int .i64 0, .int .i64 0, .int .i64 0, .int .i64 0] 42 (0, 0))
      have hb3 := heap_alloc_new W2 (.cells #[.int .u64 0, .int .i64 0, .int .i64 0, .int .i64 0, .int .i64 0] 42 (0, 0))
      rw [hW3] at hE3 hb3
      obtain ⟨b2, hb2'⟩ : ∃ q, W2.heap.size = q := ⟨_, rfl⟩
      have hbC := hbB.add hE3 hb3 (Nat.le_refl _) (nkR2 _).nk
      have hne12 : b1 ≠ b2 := by
        have := (Array.getElem?_eq_some_iff.1 hb2).1
        omega
      have hna : ab ≠ b1 ∧ ab ≠ b2 := by
        have h1 := (Array.getElem?_eq_some_iff.1 (HBA.out.box (b := ab) (o := .cells #[.int .i64 dn, .int .i64 nn, uv gen, .int .i64 l, .int .i64 pa, .int .i64 de, .int .i64 se, .slice tq tn tc, vN nm, .slice bo bn bc] 39 (0, 0)) (by simp))).1
        have h2 := (Array.getElem?_eq_some_iff.1 hb2).1
        omega
      have hl1 : w.heap.size ≤ b1 := by rw [← hb1']; exact HBA.out.base
      have hl2 : w.heap.size ≤ b2 := by rw [← hb2']; exact hbB.base
      rw [hb1', hb2'] at hbC
      rw [hb1'] at hb2 hbB
      rw [hb2'] at hb3
      have HR1 := hid (hE3.obj hb2)
      have hs1 := setRow_heap W3 b1 #[.int .u64 0, .int .i64 0, .int .i64 0, .int .i64 0, .int .i64 0] #[.int .u64 0, .int .i64 0, .int .i64 0, .int .i64 0, .int .i64 0] _ _ HR1.out
      have HS1 := hid hs1
      have hs1b : (W3.setRow b1 #[.int .u64 0, .int .i64 0, .int .i64 0, .int .i64 0, .int .i64 0]).heap[b2]? = some (.cells #[.int .u64 0, .int .i64 0, .int .i64 0, .int .i64 0, .int .i64 0] 42 (0, 0)) := by rw [setRow_other W3 b1 b2 #[.int .u64 0, .int .i64 0, .int .i64 0, .int .i64 0, .int .i64 0] (fun h => hne12 h.symm)]; exact hb3
      have HR2 := hid hs1b
      obtain ⟨hbD, hxD⟩ := hbC.turn (K' := [(b2, .cells #[.int .u64 0, .int .i64 0, .int .i64 0, .int .i64 0, .int .i64 0] 42 (0, 0)), (b1, .cells #[.int .u64 0, .int .i64 0, .int .i64 0, .int .i64 0, .int .i64 0] 35 (0, 0)), (ab, .cells #[.int .i64 dn, .int .i64 nn, uv gen, .int .i64 l, .int .i64 pa, .int .i64 de, .int .i64 se, .slice tq tn tc, vN nm, .slice bo bn bc] 39 (0, 0))]) (b := b1) (o := .cells #[.int .u64 0, .int .i64 0, .int .i64 0, .int .i64 0, .int .i64 0] 35 (0, 0)) (by simp) (setRow_fr16 W3 b1 #[.int .u64 0, .int .i64 0, .int .i64 0, .int .i64 0, .int .i64 0]) hs1 (nkR1 _).nk (nkR1 _) hl1 (fun z hz => by
        simp only [List.mem_cons, List.not_mem_nil, or_false] at hz
        rcases hz with rfl | rfl | rfl
        · exact .inr ⟨by simp, fun h => hne12 h.symm⟩
        · exact .inl rfl
        · exact .inr ⟨by simp, fun h => by
            have h1 := hbC.box (b := ab) (o := .cells #[.int .i64 dn, .int .i64 nn, uv gen, .int .i64 l, .int .i64 pa, .int .i64 de, .int .i64 se, .slice tq tn tc, vN nm, .slice bo bn bc] 39 (0, 0)) (by simp)
            have h2 := HR1.out
            rw [show ab = b1 from h, h2] at h1
            simp only [Option.some.injEq, Obj.cells.injEq] at h1
            exact absurd h1.2.1 (by decide)⟩)
      obtain ⟨hbF, hxF⟩ := hbD.turn (K' := [(ab, .cells #[.int .i64 dn, .int .i64 nn, uv gen, .int .i64 l, .int .i64 pa, .int .i64 de, .int .i64 se, .slice tq tn tc, vN nm, .slice bo bn bc] 39 (0, 0)), (b1, .cells #[.int .u64 0, .int .i64 0, .int .i64 0, .int .i64 0, .int .i64 0] 35 (0, 0)), (b2, .cells #[.int .u64 0, .int .i64 0, .int .i64 0, .int .i64 0, .int .i64 0] 42 (0, 0))]) (b := b2) (o := .cells #[.int .u64 0, .int .i64 0, .int .i64 0, .int .i64 0, .int .i64 0] 42 (0, 0)) (by simp) (setRow_fr16 (W3.setRow b1 #[.int .u64 0, .int .i64 0, .int .i64 0, .int .i64 0, .int .i64 0]) b2 #[.int .u64 0, .int .i64 0, .int .i64 0, .int .i64 0, .int .i64 0]) (setRow_heap _ _ _ _ _ _ hs1b) (nkR2 _).nk (nkR2 _) hl2 (fun z hz => by
        simp only [List.mem_cons, List.not_mem_nil, or_false] at hz
        rcases hz with rfl | rfl | rfl
        · exact .inr ⟨by simp, fun h => by
            have h1 := hbD.box (b := ab) (o := .cells #[.int .i64 dn, .int .i64 nn, uv gen, .int .i64 l, .int .i64 pa, .int .i64 de, .int .i64 se, .slice tq tn tc, vN nm, .slice bo bn bc] 39 (0, 0)) (by simp)
            rw [show ab = b2 from h, hs1b] at h1
            simp only [Option.some.injEq, Obj.cells.injEq] at h1
            exact absurd h1.2.1 (by decide)⟩
        · exact .inr ⟨by simp, hne12⟩
        · exact .inl rfl)
      have hmm := lk10 (hbF.box (b := ab) (o := .cells #[.int .i64 dn, .int .i64 nn, uv gen, .int .i64 l, .int .i64 pa, .int .i64 de, .int .i64 se, .slice tq tn tc, vN nm, .slice bo bn bc] 39 (0, 0)) (by simp))
      have hef := Ext.ofB (Ext.ofB (HEA.out.trans (hE2.trans hE3)) hxD) hxF
      have HHL : Hid (w.heap.size ≤ b1 ∧ w.heap.size ≤ b2 ∧ b1 ≠ b2) := hid ⟨hl1, hl2, hne12⟩
      obtain ⟨w4, hW4⟩ : ∃ W, (W3.setRow b1 #[.int .u64 0, .int .i64 0, .int .i64 0, .int .i64 0, .int .i64 0]).setRow b2 #[.int .u64 0, .int .i64 0, .int .i64 0, .int .i64 0, .int .i64 0] = W := ⟨_, rfl⟩
      rw [hW4] at hef hbF hmm
      have HE4 := hid hef
      have HB4 := hid hbF
      have HNA : Hid (ab ≠ b1 ∧ ab ≠ b2) := hid hna
      clear hE2 hb2 hbB hE3 hb3 hbC hna hne12 hl1 hl2 hs1 hs1b hbD hxD hbF hef hxF HEA HBA HS1
      go_upto_block 2 with (first | rw [hW1] | rw [hW2] | rw [hW3] | (refine wpList_store_row rfl 35 (.tmp 13) (.tmp 56) rfl b1 #[.int .u64 0, .int .i64 0, .int .i64 0, .int .i64 0, .int .i64 0] rfl rfl 35 _ HR1.out (by kernel_rfl) rfl (by simp [Value.oneCell']) ?_) | (refine wpList_store_row rfl 42 (.tmp 14) (.tmp 57) rfl b2 #[.int .u64 0, .int .i64 0, .int .i64 0, .int .i64 0, .int .i64 0] rfl rfl 42 _ HR2.out (by kernel_rfl) rfl (by simp [Value.oneCell']) ?_; rw [hW4]; clear mf m0 m1 m2 m3 m4 m5 m6 m7 m8 m9 hW1 hW2 hW3 hW4 k0 k1 k2 k3 k4 k5 k6 k7 k8 k9))
      go_cut [11, 12] from 60 to 136 (fun ev fv wx => ∃ (E : Int) (s' : PS) (q' : Rt), ev = .int .i64 E ∧ fv = .int .i64 E ∧ Hid (Aft w wx p r ab b1 b2 (.cells #[.int .i64 dn, .int .i64 nn, uv gen, .int .i64 l, .int .i64 pa, .int .i64 de, .int .i64 se, .slice tq tn tc, vN nm, .slice bo bn bc] 39 (0, 0)) s' q' k))
      case first =>
        by_cases h0 : dn = 0
        · have hd0 : (dn == 0) = true := by simpa using h0
          clear h0
          obtain ⟨S2, hS2⟩ : ∃ x, wrP s ⟨gen, l, pa, de, se⟩ = x := ⟨_, rfl⟩
          obtain ⟨ew, s2⟩ := S2
          have HS2 := hid hS2
          have HC1 : Hid (∀ w' t, BDE w.heap.size w' p s r t [(ab, .cells #[.int .i64 dn, .int .i64 nn, uv gen, .int .i64 l, .int .i64 pa, .int .i64 de, .int .i64 se, .slice tq tn tc, vN nm, .slice bo bn bc] 39 (0, 0)), (b1, .cells #[.int .u64 0, .int .i64 0, .int .i64 0, .int .i64 0, .int .i64 0] 35 (0, 0)), (b2, .cells #[.int .u64 0, .int .i64 0, .int .i64 0, .int .i64 0, .int .i64 0] 42 (0, 0))] → Ext w w' → Calls Tryz.prog 7 #[pv p, Value.agg #[uv gen, .int .i64 l, .int .i64 pa, .int .i64 de, .int .i64 se]] w' fun e w2 => e = .returned (.int .i64 (ew : Nat)) ∧ BDE w.heap.size w2 p s2 r t [(ab, .cells #[.int .i64 dn, .int .i64 nn, uv gen, .int .i64 l, .int .i64 pa, .int .i64 de, .int .i64 se, .slice tq tn tc, vN nm, .slice bo bn bc] 39 (0, 0)), (b1, .cells #[.int .u64 0, .int .i64 0, .int .i64 0, .int .i64 0, .int .i64 0] 35 (0, 0)), (b2, .cells #[.int .u64 0, .int .i64 0, .int .i64 0, .int .i64 0, .int .i64 0] 42 (0, 0))] ∧ Below w.heap.size w' w2) := hid fun w' t hb he => by
            have h := hb.code (fun x hx => write_any ⟨gen, l, pa, de, se⟩ hx hb.base HW.out.1 (by have := HW.out.2.1; have := HL40.out; have := HLT.out; omega) (HT.out.ext he))
            rw [hS2] at h
            exact h
          have HC2 : Hid (∀ w' t, BDE w.heap.size w' p t r s [(ab, .cells #[.int .i64 dn, .int .i64 nn, uv gen, .int .i64 l, .int .i64 pa, .int .i64 de, .int .i64 se, .slice tq tn tc, vN nm, .slice bo bn bc] 39 (0, 0)), (b1, .cells #[.int .u64 0, .int .i64 0, .int .i64 0, .int .i64 0, .int .i64 0] 35 (0, 0)), (b2, .cells #[.int .u64 0, .int .i64 0, .int .i64 0, .int .i64 0, .int .i64 0] 42 (0, 0))] → Calls Tryz.prog 8 #[pv r, Value.agg #[uv gen, .int .i64 l, .int .i64 pa, .int .i64 de, .int .i64 se]] w' fun e w2 => e = .returned (.int .i64 (ew : Nat)) ∧ BDE w.heap.size w2 p t r s2 [(ab, .cells #[.int .i64 dn, .int .i64 nn, uv gen, .int .i64 l, .int .i64 pa, .int .i64 de, .int .i64 se, .slice tq tn tc, vN nm, .slice bo bn bc] 39 (0, 0)), (b1, .cells #[.int .u64 0, .int .i64 0, .int .i64 0, .int .i64 0, .int .i64 0] 35 (0, 0)), (b2, .cells #[.int .u64 0, .int .i64 0, .int .i64 0, .int .i64 0, .int .i64 0] 42 (0, 0))] ∧ Below w.heap.size w' w2) := hid fun w' t hb => by
            have h := rwrite_any ⟨gen, l, pa, de, se⟩ hb HW.out.1 (by have := HW.out.2.1; have := HL40.out; have := HLT.out; omega) (by have := HW.out.2.2; have := HL40.out; have := HLT.out; omega)
            rw [hS2] at h
            exact h
          clear hS2
          go_wp2_with fail
          refine ParE.wp_region_e (l := [_, _, _, _, _, _, _, _, _, _, _]) rfl (fun L σ w9 => Rg.Tw 3 8 (fun a b w' => BDE w.heap.size w' p (cond a s2 s) r (cond b s2 s) [(ab, .cells #[.int .i64 dn, .int .i64 nn, uv gen, .int .i64 l, .int .i64 pa, .int .i64 de, .int .i64 se, .slice tq tn tc, vN nm, .slice bo bn bc] 39 (0, 0)), (b1, .cells #[.int .u64 0, .int .i64 0, .int .i64 0, .int .i64 0, .int .i64 0] 35 (0, 0)), (b2, .cells #[.int .u64 0, .int .i64 0, .int .i64 0, .int .i64 0, .int .i64 0] 42 (0, 0))] ∧ Ext w w') L w9) (ParC.VC [ParC.EQ (pv p), ParC.EQ (Value.pointer (some ⟨ab, 2, none⟩)), ParC.EQ (Value.agg #[uv gen, .int .i64 l, .int .i64 pa, .int .i64 de, .int .i64 se]), ParC.EQ (Value.int IntKind.i64 (ew : Nat)), ParC.EQ (pv r), ParC.EQ (Value.pointer (some ⟨ab, 2, none⟩)), ParC.EQ (Value.agg #[uv gen, .int .i64 l, .int .i64 pa, .int .i64 de, .int .i64 se]), ParC.EQ (Value.agg #[uv gen, .int .i64 l, .int .i64 pa, .int .i64 de, .int .i64 se]), ParC.EQ (Value.int IntKind.i64 (ew : Nat)), ParC.EQ (Value.int IntKind.i64 (ew : Nat)), ParC.EQ (Value.int IntKind.i64 (ew : Nat))]) (by kernel_rfl) (by kernel_rfl) (Rg.Tw.start ⟨BDE.ext HB4.out (Ext.draw _), Ext.trans HE4.out (Ext.draw _)⟩) ?_ ?_
          · refine ⟨fun L ρ w' hR hC hL hd hk => ?_, ?_⟩
            · exact Par.val_of_run rfl ⟨hR.other (by decide), hk.1⟩
            refine ⟨fun L ρ w' hR hC hL hd hk => ?_, ?_⟩
            · obtain ⟨k0, -⟩ := hk
              have e0 : ρ (.tmp 10) = Value.pointer (some ⟨ab, 0, none⟩) := k0
              clear k0
              refine Par.val_k fun K hK => ?_
              unfold Par.val
              (go_simp; exact hK _ _ ⟨hR.other (by decide), rfl⟩)
            refine ⟨fun L ρ w' hR hC hL hd hk => ?_, ?_⟩
            · obtain ⟨k0, -⟩ := hk
              have e0 : ρ (.tmp 71) = Value.pointer (some ⟨ab, 2, none⟩) := k0
              clear k0
              refine Par.val_k fun K hK => ?_
              unfold Par.val
              (obtain ⟨⟨m0, m1, m2, m3, m4, m5, m6, m7, m8, m9⟩, mf⟩ := lk10 (hR.q.1.box (b := ab) (o := .cells #[.int .i64 dn, .int .i64 nn, uv gen, .int .i64 l, .int .i64 pa, .int .i64 de, .int .i64 se, .slice tq tn tc, vN nm, .slice bo bn bc] 39 (0, 0)) (by simp)); go_simp; exact hK _ _ ⟨hR.other (by decide), rfl⟩)
            refine ⟨fun L ρ w' hR hC hL hd hk => ?_, ?_⟩
            · obtain ⟨k0, k1, k2, -⟩ := hk
              have e0 := k0
              have e1 : ρ (.tmp 70) = pv p := k1
              have e2 : ρ (.tmp 72) = Value.agg #[uv gen, .int .i64 l, .int .i64 pa, .int .i64 de, .int .i64 se] := k2
              clear k0 k1 k2
              refine Par.val_k fun K hK => ?_
              unfold Par.val
              have hq := hR.q
              rw [hL] at hq
              refine Par.val_call Tryz.func7 (by kernel_rfl) rfl e0 ?_
              simp only [List.map_toArray, List.map_cons, List.map_nil, e1, e2]
              refine (HC1.out _ _ hq.1 hq.2).mono ?_
              rintro e w2 ⟨rfl, hb, hl⟩
              exact ⟨_, rfl, hK _ _ ⟨Rg.Tw.ax (by decide) ⟨hb, Ext.ofB hq.2 hl⟩, rfl⟩⟩
            refine ⟨fun L ρ w' hR hC hL hd hk => ?_, ?_⟩
            · exact Par.val_of_run rfl ⟨hR.other (by decide), hk.1⟩
            refine ⟨fun L ρ w' hR hC hL hd hk => ?_, ?_⟩
            · obtain ⟨k0, -⟩ := hk
              have e0 : ρ (.tmp 10) = Value.pointer (some ⟨ab, 0, none⟩) := k0
              clear k0
              refine Par.val_k fun K hK => ?_
              unfold Par.val
              (go_simp; exact hK _ _ ⟨hR.other (by decide), rfl⟩)
            refine ⟨fun L ρ w' hR hC hL hd hk => ?_, ?_⟩
            · obtain ⟨k0, -⟩ := hk
              have e0 : ρ (.tmp 75) = Value.pointer (some ⟨ab, 2, none⟩) := k0
              clear k0
              refine Par.val_k fun K hK => ?_
              unfold Par.val
              (obtain ⟨⟨m0, m1, m2, m3, m4, m5, m6, m7, m8, m9⟩, mf⟩ := lk10 (hR.q.1.box (b := ab) (o := .cells #[.int .i64 dn, .int .i64 nn, uv gen, .int .i64 l, .int .i64 pa, .int .i64 de, .int .i64 se, .slice tq tn tc, vN nm, .slice bo bn bc] 39 (0, 0)) (by simp)); go_simp; exact hK _ _ ⟨hR.other (by decide), rfl⟩)
            refine ⟨fun L ρ w' hR hC hL hd hk => ?_, ?_⟩
            · obtain ⟨k0, k1, -⟩ := hk
              have e0 := k0
              have e1 : ρ (.tmp 76) = Value.agg #[uv gen, .int .i64 l, .int .i64 pa, .int .i64 de, .int .i64 se] := k1
              clear k0 k1
              refine Par.val_k fun K hK => ?_
              unfold Par.val
              refine Par.val_call Tryz.func9 (by kernel_rfl) rfl e0 ?_
              simp only [List.map_toArray, List.map_cons, List.map_nil, e1]
              refine (own16_any ⟨gen, l, pa, de, se⟩ _).mono ?_
              rintro e w2 ⟨rfl, hx⟩
              exact ⟨_, rfl, hK _ _ ⟨hR.grow (by decide) (fun _ _ h => ⟨h.1.ext hx, h.2.trans hx⟩), rfl⟩⟩
            refine ⟨fun L ρ w' hR hC hL hd hk => ?_, ?_⟩
            · obtain ⟨k0, k1, k2, -⟩ := hk
              have e0 := k0
              have e1 : ρ (.tmp 74) = pv r := k1
              have e2 : ρ (.tmp 77) = Value.agg #[uv gen, .int .i64 l, .int .i64 pa, .int .i64 de, .int .i64 se] := k2
              clear k0 k1 k2
              refine Par.val_k fun K hK => ?_
              unfold Par.val
              have hq := hR.q
              rw [hL] at hq
              refine Par.val_call Tryz.func8 (by kernel_rfl) rfl e0 ?_
              simp only [List.map_toArray, List.map_cons, List.map_nil, e1, e2]
              refine (HC2.out _ _ hq.1).mono ?_
              rintro e w2 ⟨rfl, hb, hl⟩
              exact ⟨_, rfl, hK _ _ ⟨Rg.Tw.bx (by decide) ⟨hb, Ext.ofB hq.2 hl⟩, rfl⟩⟩
            refine ⟨fun L ρ w' hR hC hL hd hk => ?_, ?_⟩
            · exact Par.val_of_run rfl ⟨hR.other (by decide), hk.1⟩
            refine ⟨fun L ρ w' hR hC hL hd hk => ?_, ?_⟩
            · exact Par.val_of_run rfl ⟨hR.other (by decide), hk.1⟩
            trivial
          intro a' w' inv hR
          have q70 : a'.tmps.getD 70 undef = pv p := inv.done 0 _ 70 rfl rfl rfl
          have q71 : a'.tmps.getD 71 undef = Value.pointer (some ⟨ab, 2, none⟩) := inv.done 1 _ 71 rfl rfl rfl
          have q72 : a'.tmps.getD 72 undef = Value.agg #[uv gen, .int .i64 l, .int .i64 pa, .int .i64 de, .int .i64 se] := inv.done 2 _ 72 rfl rfl rfl
          have q73 : a'.tmps.getD 73 undef = Value.int IntKind.i64 (ew : Nat) := inv.done 3 _ 73 rfl rfl rfl
          have q74 : a'.tmps.getD 74 undef = pv r := inv.done 4 _ 74 rfl rfl rfl
          have q75 : a'.tmps.getD 75 undef = Value.pointer (some ⟨ab, 2, none⟩) := inv.done 5 _ 75 rfl rfl rfl
          have q76 : a'.tmps.getD 76 undef = Value.agg #[uv gen, .int .i64 l, .int .i64 pa, .int .i64 de, .int .i64 se] := inv.done 6 _ 76 rfl rfl rfl
          have q77 : a'.tmps.getD 77 undef = Value.agg #[uv gen, .int .i64 l, .int .i64 pa, .int .i64 de, .int .i64 se] := inv.done 7 _ 77 rfl rfl rfl
          have q78 : a'.tmps.getD 78 undef = Value.int IntKind.i64 (ew : Nat) := inv.done 8 _ 78 rfl rfl rfl
          have q11 : a'.tmps.getD 11 undef = Value.int IntKind.i64 (ew : Nat) := inv.done 9 _ 11 rfl rfl rfl
          have q12 : a'.tmps.getD 12 undef = Value.int IntKind.i64 (ew : Nat) := inv.done 10 _ 12 rfl rfl rfl
          clear inv
          simp only [List.filterMap_cons, List.filterMap_nil, Par.putAll, Act.put, List.setIfInBounds_toArray, List.set_cons_succ, List.set_cons_zero, q70, q71, q72, q73, q74, q75, q76, q77, q78, q11, q12]
          clear q70 q71 q72 q73 q74 q75 q76 q77 q78 q11 q12
          have hfin := Rg.Tw.fin hR (by decide) (by decide); have HP : Hid (BDE w.heap.size w' p s2 r s2 [(ab, .cells #[.int .i64 dn, .int .i64 nn, uv gen, .int .i64 l, .int .i64 pa, .int .i64 de, .int .i64 se, .slice tq tn tc, vN nm, .slice bo bn bc] 39 (0, 0)), (b1, .cells #[.int .u64 0, .int .i64 0, .int .i64 0, .int .i64 0, .int .i64 0] 35 (0, 0)), (b2, .cells #[.int .u64 0, .int .i64 0, .int .i64 0, .int .i64 0, .int .i64 0] 42 (0, 0))] ∧ Ext w w') := hid hfin; clear hfin hR
          try clear a'
          go_wp2_with fail
          go_meet
          case rel => exact ⟨(ew : Nat), s2, rt0, rfl, rfl, hid (aft0 HP.out.1 HP.out.2 HW.out (by have h := wr_gr s ⟨gen, l, pa, de, se⟩; rw [HS2.out] at h; exact h))⟩
        have hd0 : (dn == 0) = false := by simpa using h0
        clear h0
        by_cases h1 : dn = 1
        · have hd1 : (dn == 1) = true := by simpa using h1
          clear h1
          obtain ⟨S2, hS2⟩ : ∃ x, rdAll s = x := ⟨_, rfl⟩
          obtain ⟨⟨g1, l1, p1, d1, s1⟩, er⟩ := S2
          have HC1 : Hid (∀ w', BDE w.heap.size w' p s r s [(ab, .cells #[.int .i64 dn, .int .i64 nn, uv gen, .int .i64 l, .int .i64 pa, .int .i64 de, .int .i64 se, .slice tq tn tc, vN nm, .slice bo bn bc] 39 (0, 0)), (b1, .cells #[.int .u64 0, .int .i64 0, .int .i64 0, .int .i64 0, .int .i64 0] 35 (0, 0)), (b2, .cells #[.int .u64 0, .int .i64 0, .int .i64 0, .int .i64 0, .int .i64 0] 42 (0, 0))] → Ext w w' → Calls Tryz.prog 10 #[pv p] w' fun e w2 => e = .returned (.tuple #[.agg #[uv g1, .int .i64 l1, .int .i64 p1, .int .i64 d1, .int .i64 s1], .int .i64 er]) ∧ Ext w' w2) := hid fun w' hb he => by
            obtain ⟨x, hx⟩ := hb.dk
            have h := readAll_any hx HW.out.1 (HT.out.ext he)
            rw [hS2] at h
            exact h
          have HC2 : Hid (∀ w', BDE w.heap.size w' p s r s [(ab, .cells #[.int .i64 dn, .int .i64 nn, uv gen, .int .i64 l, .int .i64 pa, .int .i64 de, .int .i64 se, .slice tq tn tc, vN nm, .slice bo bn bc] 39 (0, 0)), (b1, .cells #[uv g1, .int .i64 l1, .int .i64 p1, .int .i64 d1, .int .i64 s1] 35 (0, 0)), (b2, .cells #[.int .u64 0, .int .i64 0, .int .i64 0, .int .i64 0, .int .i64 0] 42 (0, 0))] → Calls Tryz.prog 11 #[pv r] w' fun e w2 => e = .returned (.tuple #[.agg #[uv g1, .int .i64 l1, .int .i64 p1, .int .i64 d1, .int .i64 s1], .int .i64 er]) ∧ Ext w' w2) := hid fun w' hb => by
            obtain ⟨y, hy⟩ := hb.rd
            have h := rreadAll_any hy HW.out.1
            rw [hS2] at h
            exact h
          clear hS2
          go_wp2_with fail
          refine (HC1.out _ HB4.out HE4.out).mono ?_
          rintro e w5 ⟨rfl, hx⟩
          have HB5 := hid (HB4.out.ext hx)
          have HE5 := hid (HE4.out.trans hx)
          clear hx
          have hr6 := HB5.out.box (b := b1) (o := .cells #[.int .u64 0, .int .i64 0, .int .i64 0, .int .i64 0, .int .i64 0] 35 (0, 0)) (by simp)
          obtain ⟨hb6, hx6⟩ := HB5.out.turn (K' := [(ab, .cells #[.int .i64 dn, .int .i64 nn, uv gen, .int .i64 l, .int .i64 pa, .int .i64 de, .int .i64 se, .slice tq tn tc, vN nm, .slice bo bn bc] 39 (0, 0)), (b1, .cells #[uv g1, .int .i64 l1, .int .i64 p1, .int .i64 d1, .int .i64 s1] 35 (0, 0)), (b2, .cells #[.int .u64 0, .int .i64 0, .int .i64 0, .int .i64 0, .int .i64 0] 42 (0, 0))]) (b := b1) (o := .cells #[.int .u64 0, .int .i64 0, .int .i64 0, .int .i64 0, .int .i64 0] 35 (0, 0)) (by simp) (setRow_fr16 w5 b1 #[uv g1, .int .i64 l1, .int .i64 p1, .int .i64 d1, .int .i64 s1]) (setRow_heap _ _ _ _ _ _ hr6) (nkR1 _).nk (nkR1 _) HHL.out.1 (fun z hz => by
            simp only [List.mem_cons, List.not_mem_nil, or_false] at hz
            rcases hz with rfl | rfl | rfl
            · exact .inr ⟨by simp, HNA.out.1⟩
            · exact .inl rfl
            · exact .inr ⟨by simp, fun h => HHL.out.2.2 h.symm⟩)
          have HR6 := hid hr6
          obtain ⟨w6, hw6⟩ : ∃ W, w5.setRow b1 #[uv g1, .int .i64 l1, .int .i64 p1, .int .i64 d1, .int .i64 s1] = W := ⟨_, rfl⟩
          rw [hw6] at hb6 hx6
          have HB6 := hid hb6
          have HE6 := hid (Ext.ofB HE5.out hx6)
          clear hr6 hb6 hx6
          go_wp2_with (first | (refine wpList_store_row rfl 35 (.tmp 13) (.tmp 84) rfl b1 #[uv g1, .int .i64 l1, .int .i64 p1, .int .i64 d1, .int .i64 s1] rfl rfl 35 _ HR6.out (by kernel_rfl) rfl (by simp [Value.oneCell']) ?_; rw [hw6]) | fail)
          refine (HC2.out _ HB6.out).mono ?_
          rintro e w7 ⟨rfl, hx⟩
          have HB7 := hid (HB6.out.ext hx)
          have HE7 := hid (HE6.out.trans hx)
          clear hx hw6
          have hr8 := HB7.out.box (b := b2) (o := .cells #[.int .u64 0, .int .i64 0, .int .i64 0, .int .i64 0, .int .i64 0] 42 (0, 0)) (by simp)
          obtain ⟨hb8, hx8⟩ := HB7.out.turn (K' := [(ab, .cells #[.int .i64 dn, .int .i64 nn, uv gen, .int .i64 l, .int .i64 pa, .int .i64 de, .int .i64 se, .slice tq tn tc, vN nm, .slice bo bn bc] 39 (0, 0)), (b1, .cells #[uv g1, .int .i64 l1, .int .i64 p1, .int .i64 d1, .int .i64 s1] 35 (0, 0)), (b2, .cells #[uv g1, .int .i64 l1, .int .i64 p1, .int .i64 d1, .int .i64 s1] 42 (0, 0))]) (b := b2) (o := .cells #[.int .u64 0, .int .i64 0, .int .i64 0, .int .i64 0, .int .i64 0] 42 (0, 0)) (by simp) (setRow_fr16 w7 b2 #[uv g1, .int .i64 l1, .int .i64 p1, .int .i64 d1, .int .i64 s1]) (setRow_heap _ _ _ _ _ _ hr8) (nkR2 _).nk (nkR2 _) HHL.out.2.1 (fun z hz => by
            simp only [List.mem_cons, List.not_mem_nil, or_false] at hz
            rcases hz with rfl | rfl | rfl
            · exact .inr ⟨by simp, HNA.out.2⟩
            · exact .inr ⟨by simp, HHL.out.2.2⟩
            · exact .inl rfl)
          have HR8 := hid hr8
          obtain ⟨w8, hw8⟩ : ∃ W, w7.setRow b2 #[uv g1, .int .i64 l1, .int .i64 p1, .int .i64 d1, .int .i64 s1] = W := ⟨_, rfl⟩
          rw [hw8] at hb8 hx8
          have HB8 := hid hb8
          have HE8 := hid (Ext.ofB HE7.out hx8)
          clear hr8 hb8 hx8
          go_wp2_with (first | (refine wpList_store_row rfl 42 (.tmp 14) (.tmp 89) rfl b2 #[uv g1, .int .i64 l1, .int .i64 p1, .int .i64 d1, .int .i64 s1] rfl rfl 42 _ HR8.out (by kernel_rfl) rfl (by simp [Value.oneCell']) ?_; rw [hw8]) | fail)
          go_meet
          case rel => exact ⟨er, s, ⟨g1, l1, p1, d1, s1⟩, rfl, rfl, hid (aftOf HB8.out HE8.out HW.out ⟨id, Nat.le_add_right _ 6, Nat.le_add_right _ 6⟩)⟩
        have hd1 : (dn == 1) = false := by simpa using h1
        clear h1
        by_cases h2 : dn = 2
        · have hd2 : (dn == 2) = true := by simpa using h2
          clear h2
          obtain ⟨⟨m0, m1, m2, m3, m4, m5, m6, m7, m8, m9⟩, mf⟩ := lk10 (HB4.out.box (b := ab) (o := .cells #[.int .i64 dn, .int .i64 nn, uv gen, .int .i64 l, .int .i64 pa, .int .i64 de, .int .i64 se, .slice tq tn tc, vN nm, .slice bo bn bc] 39 (0, 0)) (by simp))
          go_wp2_with fail
          clear m0 m1 m2 m3 m4 m5 m6 m7 m8 m9 mf
          refine (HB4.out.codeU (fun x hx => dfuse_any nn HOK.out.n.2 hx HB4.out.base)).mono ?_
          rintro e w5 ⟨⟨u5, rfl⟩, hb, hl⟩
          have HB5 := hid hb
          have HE5 := hid (Ext.ofB HE4.out hl)
          clear hb hl
          obtain ⟨⟨m0, m1, m2, m3, m4, m5, m6, m7, m8, m9⟩, mf⟩ := lk10 (HB5.out.box (b := ab) (o := .cells #[.int .i64 dn, .int .i64 nn, uv gen, .int .i64 l, .int .i64 pa, .int .i64 de, .int .i64 se, .slice tq tn tc, vN nm, .slice bo bn bc] 39 (0, 0)) (by simp))
          go_wp2_with fail
          clear m0 m1 m2 m3 m4 m5 m6 m7 m8 m9 mf
          refine (HB5.out.docU (fun y hy => (rfuse_any nn hy).mono fun e w9 h => ⟨h.1, ⟨y, h.2.1, Nw.refl _ _⟩, h.2.2.mono (by simp)⟩)).mono ?_
          rintro e w6 ⟨⟨u6, rfl⟩, hb, hl⟩
          have HB6 := hid hb
          have HE6 := hid (Ext.ofB HE5.out hl)
          clear hb hl
          go_wp2_with fail
          go_meet
          case rel => exact ⟨0, fusP s nn, rt0, rfl, rfl, hid (aft0 HB6.out HE6.out HW.out (gr6 (gr_fus s nn HOK.out.n.2) (Gr.same _)))⟩
        have hd2 : (dn == 2) = false := by simpa using h2
        clear h2
        by_cases h3 : dn = 3
        · have hd3 : (dn == 3) = true := by simpa using h3
          clear h3
          have HCR1 : Hid (∀ w', BDE w.heap.size w' p s r s [(ab, .cells #[.int .i64 dn, .int .i64 nn, uv gen, .int .i64 l, .int .i64 pa, .int .i64 de, .int .i64 se, .slice tq tn tc, vN nm, .slice bo bn bc] 39 (0, 0)), (b1, .cells #[.int .u64 0, .int .i64 0, .int .i64 0, .int .i64 0, .int .i64 0] 35 (0, 0)), (b2, .cells #[.int .u64 0, .int .i64 0, .int .i64 0, .int .i64 0, .int .i64 0] 42 (0, 0))] → Ext w w' → Calls Tryz.prog 14 #[pv p, .int .i64 nn, .slice tq tn tc] w' fun e w2 => (∃ u, e = .returned u) ∧ BDE w.heap.size w2 p (crP s nn ts) r s [(ab, .cells #[.int .i64 dn, .int .i64 nn, uv gen, .int .i64 l, .int .i64 pa, .int .i64 de, .int .i64 se, .slice tq tn tc, vN nm, .slice bo bn bc] 39 (0, 0)), (b1, .cells #[.int .u64 0, .int .i64 0, .int .i64 0, .int .i64 0, .int .i64 0] 35 (0, 0)), (b2, .cells #[.int .u64 0, .int .i64 0, .int .i64 0, .int .i64 0, .int .i64 0] 42 (0, 0))] ∧ Below w.heap.size w' w2) := hid fun w' hb he => by
            have h := hb.codeU (fun x hx => dcrash_any nn ts tq tc hx hb.base (by rw [HTN.out.1]; exact HOT.out.ext he) (fun a ha hne hm => by have := low_of HOT.out a ha hne; have := hx.low _ hm; omega) HOK.out.ts (HW.out.1.cra nn ts).gd)
            rw [HTN.out.1] at h
            exact h
          have HCR2 : Hid (∀ w', BDE w.heap.size w' p (crP s nn ts) r s [(ab, .cells #[.int .i64 dn, .int .i64 nn, uv gen, .int .i64 l, .int .i64 pa, .int .i64 de, .int .i64 se, .slice tq tn tc, vN nm, .slice bo bn bc] 39 (0, 0)), (b1, .cells #[.int .u64 0, .int .i64 0, .int .i64 0, .int .i64 0, .int .i64 0] 35 (0, 0)), (b2, .cells #[.int .u64 0, .int .i64 0, .int .i64 0, .int .i64 0, .int .i64 0] 42 (0, 0))] → Ext w w' → Calls Tryz.prog 15 #[pv r, .int .i64 nn, .slice tq tn tc] w' fun e w2 => (∃ u, e = .returned u) ∧ BDE w.heap.size w2 p (crP s nn ts) r (crP s nn ts) [(ab, .cells #[.int .i64 dn, .int .i64 nn, uv gen, .int .i64 l, .int .i64 pa, .int .i64 de, .int .i64 se, .slice tq tn tc, vN nm, .slice bo bn bc] 39 (0, 0)), (b1, .cells #[.int .u64 0, .int .i64 0, .int .i64 0, .int .i64 0, .int .i64 0] 35 (0, 0)), (b2, .cells #[.int .u64 0, .int .i64 0, .int .i64 0, .int .i64 0, .int .i64 0] 42 (0, 0))] ∧ Below w.heap.size w' w2) := hid fun w' hb he => by
            have h := hb.docU (fun y hy => rcrash_any nn ts tq tc hy hb.base HW.out.1 (by have := HW.out.2.1; have := HL40.out; have := HLT.out; omega) HOK.out.n (by rw [HTN.out.1]; exact HOT.out.ext he) (fun a ha hne => low_of HOT.out a ha hne) HOK.out.ts)
            rw [HTN.out.1] at h
            exact h
          obtain ⟨⟨m0, m1, m2, m3, m4, m5, m6, m7, m8, m9⟩, mf⟩ := lk10 (HB4.out.box (b := ab) (o := .cells #[.int .i64 dn, .int .i64 nn, uv gen, .int .i64 l, .int .i64 pa, .int .i64 de, .int .i64 se, .slice tq tn tc, vN nm, .slice bo bn bc] 39 (0, 0)) (by simp))
          go_wp2_with fail
          clear m0 m1 m2 m3 m4 m5 m6 m7 m8 m9 mf
          refine (HCR1.out _ HB4.out HE4.out).mono ?_
          rintro e w5 ⟨⟨u5, rfl⟩, hb, hl⟩
          have HB5 := hid hb
          have HE5 := hid (Ext.ofB HE4.out hl)
          clear hb hl
          obtain ⟨⟨m0, m1, m2, m3, m4, m5, m6, m7, m8, m9⟩, mf⟩ := lk10 (HB5.out.box (b := ab) (o := .cells #[.int .i64 dn, .int .i64 nn, uv gen, .int .i64 l, .int .i64 pa, .int .i64 de, .int .i64 se, .slice tq tn tc, vN nm, .slice bo bn bc] 39 (0, 0)) (by simp))
          go_wp2_with fail
          clear m0 m1 m2 m3 m4 m5 m6 m7 m8 m9 mf
          refine (HCR2.out _ HB5.out HE5.out).mono ?_
          rintro e w6 ⟨⟨u6, rfl⟩, hb, hl⟩
          have HB6 := hid hb
          have HE6 := hid (Ext.ofB HE5.out hl)
          clear hb hl
          go_wp2_with fail
          go_meet
          case rel => exact ⟨0, crP s nn ts, rt0, rfl, rfl, hid (aft0 HB6.out HE6.out HW.out (gr6 (gr_cra s nn ts) (Gr.same _)))⟩
        have hd3 : (dn == 3) = false := by simpa using h3
        clear h3
        by_cases h4 : dn = 4
        · have hd4 : (dn == 4) = true := by simpa using h4
          clear h4
          obtain ⟨NM, hNM⟩ : ∃ x, nmd ⟨dn, nn, ⟨gen, l, pa, de, se⟩, ts, nm, b⟩ = x := ⟨_, rfl⟩
          have HNML : Hid (NM.length ≤ maxLen) := hid (by rw [← hNM]; exact nmd_len _ HOK.out.name)
          have HNM : Hid (∀ w', Calls Tryz.prog 17 #[.agg #[.int .i64 dn, .int .i64 nn, uv gen, .int .i64 l, .int .i64 pa, .int .i64 de, .int .i64 se, .slice tq tn tc, vN nm, .slice bo bn bc]] w' fun e w2 => e = .returned (vN NM) ∧ Ext w' w2) := hid fun w' => by
            have h := named16_any dn nn gen l pa de se ts nm b tq bo tn tc bn bc w'
            rw [hNM] at h
            exact h
          clear hNM
          obtain ⟨⟨m0, m1, m2, m3, m4, m5, m6, m7, m8, m9⟩, mf⟩ := lk10 (HB4.out.box (b := ab) (o := .cells #[.int .i64 dn, .int .i64 nn, uv gen, .int .i64 l, .int .i64 pa, .int .i64 de, .int .i64 se, .slice tq tn tc, vN nm, .slice bo bn bc] 39 (0, 0)) (by simp))
          go_wp2_with fail
          clear m0 m1 m2 m3 m4 m5 m6 m7 m8 m9 mf
          refine (HNM.out _).mono ?_
          rintro e w5 ⟨rfl, hx⟩
          have HB5 := hid (HB4.out.ext hx)
          have HE5 := hid (HE4.out.trans hx)
          clear hx
          obtain ⟨⟨m0, m1, m2, m3, m4, m5, m6, m7, m8, m9⟩, mf⟩ := lk10 (HB5.out.box (b := ab) (o := .cells #[.int .i64 dn, .int .i64 nn, uv gen, .int .i64 l, .int .i64 pa, .int .i64 de, .int .i64 se, .slice tq tn tc, vN nm, .slice bo bn bc] 39 (0, 0)) (by simp))
          go_wp2_with fail
          clear m0 m1 m2 m3 m4 m5 m6 m7 m8 m9 mf
          refine (HB5.out.code (c := creP s NM) (fun x hx => dcreate_any NM HNML.out hx HB5.out.base (HW.out.1.cre NM).gd (by have := HW.out.2.1; have := HL40.out; have := HLT.out; omega))).mono ?_
          rintro e w6 ⟨rfl, hb, hl⟩
          have HB6 := hid hb
          have HE6 := hid (Ext.ofB HE5.out hl)
          clear hb hl
          obtain ⟨⟨m0, m1, m2, m3, m4, m5, m6, m7, m8, m9⟩, mf⟩ := lk10 (HB6.out.box (b := ab) (o := .cells #[.int .i64 dn, .int .i64 nn, uv gen, .int .i64 l, .int .i64 pa, .int .i64 de, .int .i64 se, .slice tq tn tc, vN nm, .slice bo bn bc] 39 (0, 0)) (by simp))
          go_wp2_with fail
          clear m0 m1 m2 m3 m4 m5 m6 m7 m8 m9 mf
          refine (HNM.out _).mono ?_
          rintro e w7 ⟨rfl, hx⟩
          have HB7 := hid (HB6.out.ext hx)
          have HE7 := hid (HE6.out.trans hx)
          clear hx
          obtain ⟨⟨m0, m1, m2, m3, m4, m5, m6, m7, m8, m9⟩, mf⟩ := lk10 (HB7.out.box (b := ab) (o := .cells #[.int .i64 dn, .int .i64 nn, uv gen, .int .i64 l, .int .i64 pa, .int .i64 de, .int .i64 se, .slice tq tn tc, vN nm, .slice bo bn bc] 39 (0, 0)) (by simp))
          go_wp2_with fail
          clear m0 m1 m2 m3 m4 m5 m6 m7 m8 m9 mf
          refine (HB7.out.doc (c := creP s NM) (fun y hy => rcreate_any NM HNML.out hy HB7.out.base HW.out.1 (by have := HW.out.2.1; have := HL40.out; have := HLT.out; omega) (by have := HW.out.2.2; have := HL40.out; have := HLT.out; omega))).mono ?_
          rintro e w8 ⟨rfl, hb, hl⟩
          have HB8 := hid hb
          have HE8 := hid (Ext.ofB HE7.out hl)
          clear hb hl
          obtain ⟨sC, hsC⟩ : ∃ x, (creP s NM).2 = x := ⟨_, rfl⟩
          have HGC : Hid (Gr s sC) := hid (by rw [← hsC]; exact gr_cre s NM)
          rw [hsC] at HB8
          clear hsC
          obtain ⟨S2, hS2⟩ : ∃ x, appP sC NM b = x := ⟨_, rfl⟩
          obtain ⟨ew, s2⟩ := S2
          have HGA : Hid (Gr sC s2) := hid (by have h := gr_app sC NM b; rw [hS2] at h; exact h)
          have HBL : Hid (b.length ≤ 1048576) := hid (by have := HTN.out.2.2; have := HSB.out; have := HS300.out; omega)
          have HC1 : Hid (∀ w' t, BDE w.heap.size w' p sC r t [(ab, .cells #[.int .i64 dn, .int .i64 nn, uv gen, .int .i64 l, .int .i64 pa, .int .i64 de, .int .i64 se, .slice tq tn tc, vN nm, .slice bo bn bc] 39 (0, 0)), (b1, .cells #[.int .u64 0, .int .i64 0, .int .i64 0, .int .i64 0, .int .i64 0] 35 (0, 0)), (b2, .cells #[.int .u64 0, .int .i64 0, .int .i64 0, .int .i64 0, .int .i64 0] 42 (0, 0))] → Ext w w' → Calls Tryz.prog 19 #[pv p, vN NM, .slice bo bn bc] w' fun e w2 => e = .returned (.int .i64 (ew : Nat)) ∧ BDE w.heap.size w2 p s2 r t [(ab, .cells #[.int .i64 dn, .int .i64 nn, uv gen, .int .i64 l, .int .i64 pa, .int .i64 de, .int .i64 se, .slice tq tn tc, vN nm, .slice bo bn bc] 39 (0, 0)), (b1, .cells #[.int .u64 0, .int .i64 0, .int .i64 0, .int .i64 0, .int .i64 0] 35 (0, 0)), (b2, .cells #[.int .u64 0, .int .i64 0, .int .i64 0, .int .i64 0, .int .i64 0] 42 (0, 0))] ∧ Below w.heap.size w' w2) := hid fun w' t hb he => by
            have h := hb.code (fun x hx => dappend_any NM b (.slice bo bn bc) HNML.out (HOB.out.ext he) HBL.out hx hb.base ((HGC.out.1 HW.out.1).app NM b).gd)
            rw [hS2] at h
            exact h
          have HC2 : Hid (∀ w' t, BDE w.heap.size w' p t r sC [(ab, .cells #[.int .i64 dn, .int .i64 nn, uv gen, .int .i64 l, .int .i64 pa, .int .i64 de, .int .i64 se, .slice tq tn tc, vN nm, .slice bo bn bc] 39 (0, 0)), (b1, .cells #[.int .u64 0, .int .i64 0, .int .i64 0, .int .i64 0, .int .i64 0] 35 (0, 0)), (b2, .cells #[.int .u64 0, .int .i64 0, .int .i64 0, .int .i64 0, .int .i64 0] 42 (0, 0))] → Ext w w' → Calls Tryz.prog 20 #[pv r, vN NM, .slice bo bn bc] w' fun e w2 => e = .returned (.int .i64 (ew : Nat)) ∧ BDE w.heap.size w2 p t r s2 [(ab, .cells #[.int .i64 dn, .int .i64 nn, uv gen, .int .i64 l, .int .i64 pa, .int .i64 de, .int .i64 se, .slice tq tn tc, vN nm, .slice bo bn bc] 39 (0, 0)), (b1, .cells #[.int .u64 0, .int .i64 0, .int .i64 0, .int .i64 0, .int .i64 0] 35 (0, 0)), (b2, .cells #[.int .u64 0, .int .i64 0, .int .i64 0, .int .i64 0, .int .i64 0] 42 (0, 0))] ∧ Below w.heap.size w' w2) := hid fun w' t hb he => by
            have h := hb.doc (fun y hy => rappend_any NM b (.slice bo bn bc) hy (HOB.out.ext he) HBL.out hb.base (HGC.out.1 HW.out.1) (by have := HGC.out.2.2; have := HW.out.2.2; have := HL40.out; have := HLT.out; omega) (by have := HGC.out.2.1; have := HW.out.2.1; have := HL40.out; have := HLT.out; omega))
            rw [hS2] at h
            exact h
          clear hS2
          go_wp2_with fail
          refine ParE.wp_region_e (l := [_, _, _, _, _, _, _, _, _, _, _, _, _, _]) rfl (fun L σ w9 => Rg.Tw 5 11 (fun a b w' => BDE w.heap.size w' p (cond a s2 sC) r (cond b s2 sC) [(ab, .cells #[.int .i64 dn, .int .i64 nn, uv gen, .int .i64 l, .int .i64 pa, .int .i64 de, .int .i64 se, .slice tq tn tc, vN nm, .slice bo bn bc] 39 (0, 0)), (b1, .cells #[.int .u64 0, .int .i64 0, .int .i64 0, .int .i64 0, .int .i64 0] 35 (0, 0)), (b2, .cells #[.int .u64 0, .int .i64 0, .int .i64 0, .int .i64 0, .int .i64 0] 42 (0, 0))] ∧ Ext w w') L w9) (ParC.VC [ParC.EQ (pv p), ParC.EQ (Value.agg #[.int .i64 dn, .int .i64 nn, uv gen, .int .i64 l, .int .i64 pa, .int .i64 de, .int .i64 se, .slice tq tn tc, vN nm, .slice bo bn bc]), ParC.EQ (vN NM), ParC.EQ (Value.pointer (some ⟨ab, 9, none⟩)), ParC.EQ (Value.slice bo bn bc), ParC.EQ (Value.int IntKind.i64 (ew : Nat)), ParC.EQ (pv r), ParC.EQ (Value.agg #[.int .i64 dn, .int .i64 nn, uv gen, .int .i64 l, .int .i64 pa, .int .i64 de, .int .i64 se, .slice tq tn tc, vN nm, .slice bo bn bc]), ParC.EQ (vN NM), ParC.EQ (Value.pointer (some ⟨ab, 9, none⟩)), ParC.EQ (Value.slice bo bn bc), ParC.EQ (Value.int IntKind.i64 (ew : Nat)), ParC.EQ (Value.int IntKind.i64 (ew : Nat)), ParC.EQ (Value.int IntKind.i64 (ew : Nat))]) (by kernel_rfl) (by kernel_rfl) (Rg.Tw.start ⟨BDE.ext HB8.out (Ext.draw _), Ext.trans HE8.out (Ext.draw _)⟩) ?_ ?_
          · refine ⟨fun L ρ w' hR hC hL hd hk => ?_, ?_⟩
            · exact Par.val_of_run rfl ⟨hR.other (by decide), hk.1⟩
            refine ⟨fun L ρ w' hR hC hL hd hk => ?_, ?_⟩
            · obtain ⟨k0, -⟩ := hk
              have e0 : ρ (.tmp 10) = Value.pointer (some ⟨ab, 0, none⟩) := k0
              clear k0
              refine Par.val_k fun K hK => ?_
              unfold Par.val
              (obtain ⟨⟨m0, m1, m2, m3, m4, m5, m6, m7, m8, m9⟩, mf⟩ := lk10 (hR.q.1.box (b := ab) (o := .cells #[.int .i64 dn, .int .i64 nn, uv gen, .int .i64 l, .int .i64 pa, .int .i64 de, .int .i64 se, .slice tq tn tc, vN nm, .slice bo bn bc] 39 (0, 0)) (by simp)); go_simp; exact hK _ _ ⟨hR.other (by decide), rfl⟩)
            refine ⟨fun L ρ w' hR hC hL hd hk => ?_, ?_⟩
            · obtain ⟨k0, k1, -⟩ := hk
              have e0 := k0
              have e1 : ρ (.tmp 126) = Value.agg #[.int .i64 dn, .int .i64 nn, uv gen, .int .i64 l, .int .i64 pa, .int .i64 de, .int .i64 se, .slice tq tn tc, vN nm, .slice bo bn bc] := k1
              clear k0 k1
              refine Par.val_k fun K hK => ?_
              unfold Par.val
              refine Par.val_call Tryz.func17 (by kernel_rfl) rfl e0 ?_
              simp only [List.map_toArray, List.map_cons, List.map_nil, e1]
              refine (HNM.out _).mono ?_
              rintro e w2 ⟨rfl, hx⟩
              exact ⟨_, rfl, hK _ _ ⟨hR.grow (by decide) (fun _ _ h => ⟨h.1.ext hx, h.2.trans hx⟩), rfl⟩⟩
            refine ⟨fun L ρ w' hR hC hL hd hk => ?_, ?_⟩
            · obtain ⟨k0, -⟩ := hk
              have e0 : ρ (.tmp 10) = Value.pointer (some ⟨ab, 0, none⟩) := k0
              clear k0
              refine Par.val_k fun K hK => ?_
              unfold Par.val
              (go_simp; exact hK _ _ ⟨hR.other (by decide), rfl⟩)
            refine ⟨fun L ρ w' hR hC hL hd hk => ?_, ?_⟩
            · obtain ⟨k0, -⟩ := hk
              have e0 : ρ (.tmp 128) = Value.pointer (some ⟨ab, 9, none⟩) := k0
              clear k0
              refine Par.val_k fun K hK => ?_
              unfold Par.val
              (obtain ⟨⟨m0, m1, m2, m3, m4, m5, m6, m7, m8, m9⟩, mf⟩ := lk10 (hR.q.1.box (b := ab) (o := .cells #[.int .i64 dn, .int .i64 nn, uv gen, .int .i64 l, .int .i64 pa, .int .i64 de, .int .i64 se, .slice tq tn tc, vN nm, .slice bo bn bc] 39 (0, 0)) (by simp)); go_simp; exact hK _ _ ⟨hR.other (by decide), rfl⟩)
            refine ⟨fun L ρ w' hR hC hL hd hk => ?_, ?_⟩
            · obtain ⟨k0, k1, k2, k3, -⟩ := hk
              have e0 := k0
              have e1 : ρ (.tmp 125) = pv p := k1
              have e2 : ρ (.tmp 127) = vN NM := k2
              have e3 : ρ (.tmp 129) = Value.slice bo bn bc := k3
              clear k0 k1 k2 k3
              refine Par.val_k fun K hK => ?_
              unfold Par.val
              have hq := hR.q
              rw [hL] at hq
              refine Par.val_call Tryz.func19 (by kernel_rfl) rfl e0 ?_
              simp only [List.map_toArray, List.map_cons, List.map_nil, e1, e2, e3]
              refine (HC1.out _ _ hq.1 hq.2).mono ?_
              rintro e w2 ⟨rfl, hb, hl⟩
              exact ⟨_, rfl, hK _ _ ⟨Rg.Tw.ax (by decide) ⟨hb, Ext.ofB hq.2 hl⟩, rfl⟩⟩
            refine ⟨fun L ρ w' hR hC hL hd hk => ?_, ?_⟩
            · exact Par.val_of_run rfl ⟨hR.other (by decide), hk.1⟩
            refine ⟨fun L ρ w' hR hC hL hd hk => ?_, ?_⟩
            · obtain ⟨k0, -⟩ := hk
              have e0 : ρ (.tmp 10) = Value.pointer (some ⟨ab, 0, none⟩) := k0
              clear k0
              refine Par.val_k fun K hK => ?_
              unfold Par.val
              (obtain ⟨⟨m0, m1, m2, m3, m4, m5, m6, m7, m8, m9⟩, mf⟩ := lk10 (hR.q.1.box (b := ab) (o := .cells #[.int .i64 dn, .int .i64 nn, uv gen, .int .i64 l, .int .i64 pa, .int .i64 de, .int .i64 se, .slice tq tn tc, vN nm, .slice bo bn bc] 39 (0, 0)) (by simp)); go_simp; exact hK _ _ ⟨hR.other (by decide), rfl⟩)
            refine ⟨fun L ρ w' hR hC hL hd hk => ?_, ?_⟩
            · obtain ⟨k0, k1, -⟩ := hk
              have e0 := k0
              have e1 : ρ (.tmp 132) = Value.agg #[.int .i64 dn, .int .i64 nn, uv gen, .int .i64 l, .int .i64 pa, .int .i64 de, .int .i64 se, .slice tq tn tc, vN nm, .slice bo bn bc] := k1
              clear k0 k1
              refine Par.val_k fun K hK => ?_
              unfold Par.val
              refine Par.val_call Tryz.func17 (by kernel_rfl) rfl e0 ?_
              simp only [List.map_toArray, List.map_cons, List.map_nil, e1]
              refine (HNM.out _).mono ?_
              rintro e w2 ⟨rfl, hx⟩
              exact ⟨_, rfl, hK _ _ ⟨hR.grow (by decide) (fun _ _ h => ⟨h.1.ext hx, h.2.trans hx⟩), rfl⟩⟩
            refine ⟨fun L ρ w' hR hC hL hd hk => ?_, ?_⟩
            · obtain ⟨k0, -⟩ := hk
              have e0 : ρ (.tmp 10) = Value.pointer (some ⟨ab, 0, none⟩) := k0
              clear k0
              refine Par.val_k fun K hK => ?_
              unfold Par.val
              (go_simp; exact hK _ _ ⟨hR.other (by decide), rfl⟩)
            refine ⟨fun L ρ w' hR hC hL hd hk => ?_, ?_⟩
            · obtain ⟨k0, -⟩ := hk
              have e0 : ρ (.tmp 134) = Value.pointer (some ⟨ab, 9, none⟩) := k0
              clear k0
              refine Par.val_k fun K hK => ?_
              unfold Par.val
              (obtain ⟨⟨m0, m1, m2, m3, m4, m5, m6, m7, m8, m9⟩, mf⟩ := lk10 (hR.q.1.box (b := ab) (o := .cells #[.int .i64 dn, .int .i64 nn, uv gen, .int .i64 l, .int .i64 pa, .int .i64 de, .int .i64 se, .slice tq tn tc, vN nm, .slice bo bn bc] 39 (0, 0)) (by simp)); go_simp; exact hK _ _ ⟨hR.other (by decide), rfl⟩)
            refine ⟨fun L ρ w' hR hC hL hd hk => ?_, ?_⟩
            · obtain ⟨k0, k1, k2, k3, -⟩ := hk
              have e0 := k0
              have e1 : ρ (.tmp 131) = pv r := k1
              have e2 : ρ (.tmp 133) = vN NM := k2
              have e3 : ρ (.tmp 135) = Value.slice bo bn bc := k3
              clear k0 k1 k2 k3
              refine Par.val_k fun K hK => ?_
              unfold Par.val
              have hq := hR.q
              rw [hL] at hq
              refine Par.val_call Tryz.func20 (by kernel_rfl) rfl e0 ?_
              simp only [List.map_toArray, List.map_cons, List.map_nil, e1, e2, e3]
              refine (HC2.out _ _ hq.1 hq.2).mono ?_
              rintro e w2 ⟨rfl, hb, hl⟩
              exact ⟨_, rfl, hK _ _ ⟨Rg.Tw.bx (by decide) ⟨hb, Ext.ofB hq.2 hl⟩, rfl⟩⟩
            refine ⟨fun L ρ w' hR hC hL hd hk => ?_, ?_⟩
            · exact Par.val_of_run rfl ⟨hR.other (by decide), hk.1⟩
            refine ⟨fun L ρ w' hR hC hL hd hk => ?_, ?_⟩
            · exact Par.val_of_run rfl ⟨hR.other (by decide), hk.1⟩
            trivial
          intro a' w' inv hR
          have q125 : a'.tmps.getD 125 undef = pv p := inv.done 0 _ 125 rfl rfl rfl
          have q126 : a'.tmps.getD 126 undef = Value.agg #[.int .i64 dn, .int .i64 nn, uv gen, .int .i64 l, .int .i64 pa, .int .i64 de, .int .i64 se, .slice tq tn tc, vN nm, .slice bo bn bc] := inv.done 1 _ 126 rfl rfl rfl
          have q127 : a'.tmps.getD 127 undef = vN NM := inv.done 2 _ 127 rfl rfl rfl
          have q128 : a'.tmps.getD 128 undef = Value.pointer (some ⟨ab, 9, none⟩) := inv.done 3 _ 128 rfl rfl rfl
          have q129 : a'.tmps.getD 129 undef = Value.slice bo bn bc := inv.done 4 _ 129 rfl rfl rfl
          have q130 : a'.tmps.getD 130 undef = Value.int IntKind.i64 (ew : Nat) := inv.done 5 _ 130 rfl rfl rfl
          have q131 : a'.tmps.getD 131 undef = pv r := inv.done 6 _ 131 rfl rfl rfl
          have q132 : a'.tmps.getD 132 undef = Value.agg #[.int .i64 dn, .int .i64 nn, uv gen, .int .i64 l, .int .i64 pa, .int .i64 de, .int .i64 se, .slice tq tn tc, vN nm, .slice bo bn bc] := inv.done 7 _ 132 rfl rfl rfl
          have q133 : a'.tmps.getD 133 undef = vN NM := inv.done 8 _ 133 rfl rfl rfl
          have q134 : a'.tmps.getD 134 undef = Value.pointer (some ⟨ab, 9, none⟩) := inv.done 9 _ 134 rfl rfl rfl
          have q135 : a'.tmps.getD 135 undef = Value.slice bo bn bc := inv.done 10 _ 135 rfl rfl rfl
          have q136 : a'.tmps.getD 136 undef = Value.int IntKind.i64 (ew : Nat) := inv.done 11 _ 136 rfl rfl rfl
          have q11 : a'.tmps.getD 11 undef = Value.int IntKind.i64 (ew : Nat) := inv.done 12 _ 11 rfl rfl rfl
          have q12 : a'.tmps.getD 12 undef = Value.int IntKind.i64 (ew : Nat) := inv.done 13 _ 12 rfl rfl rfl
          clear inv
          simp only [List.filterMap_cons, List.filterMap_nil, Par.putAll, Act.put, List.setIfInBounds_toArray, List.set_cons_succ, List.set_cons_zero, q125, q126, q127, q128, q129, q130, q131, q132, q133, q134, q135, q136, q11, q12]
          clear q125 q126 q127 q128 q129 q130 q131 q132 q133 q134 q135 q136 q11 q12
          have hfin := Rg.Tw.fin hR (by decide) (by decide); have HP : Hid (BDE w.heap.size w' p s2 r s2 [(ab, .cells #[.int .i64 dn, .int .i64 nn, uv gen, .int .i64 l, .int .i64 pa, .int .i64 de, .int .i64 se, .slice tq tn tc, vN nm, .slice bo bn bc] 39 (0, 0)), (b1, .cells #[.int .u64 0, .int .i64 0, .int .i64 0, .int .i64 0, .int .i64 0] 35 (0, 0)), (b2, .cells #[.int .u64 0, .int .i64 0, .int .i64 0, .int .i64 0, .int .i64 0] 42 (0, 0))] ∧ Ext w w') := hid hfin; clear hfin hR
          try clear a'
          go_wp2_with fail
          go_meet
          case rel => exact ⟨(ew : Nat), s2, rt0, rfl, rfl, hid (aft0 HP.out.1 HP.out.2 HW.out (gr6 HGC.out HGA.out))⟩
        have hd4 : (dn == 4) = false := by simpa using h4
        clear h4
        obtain ⟨⟨m0, m1, m2, m3, m4, m5, m6, m7, m8, m9⟩, mf⟩ := lk10 (HB4.out.box (b := ab) (o := .cells #[.int .i64 dn, .int .i64 nn, uv gen, .int .i64 l, .int .i64 pa, .int .i64 de, .int .i64 se, .slice tq tn tc, vN nm, .slice bo bn bc] 39 (0, 0)) (by simp))
        go_wp2_with fail
        clear m0 m1 m2 m3 m4 m5 m6 m7 m8 m9 mf
        refine (HB4.out.code (c := synP s nRoot) (fun x hx => dsync_any nRoot nl.2 hx HB4.out.base (HW.out.1.syn nRoot).gd)).mono ?_
        rintro e w5 ⟨rfl, hb, hl⟩
        have HB5 := hid hb
        have HE5 := hid (Ext.ofB HE4.out hl)
        clear hb hl
        obtain ⟨⟨m0, m1, m2, m3, m4, m5, m6, m7, m8, m9⟩, mf⟩ := lk10 (HB5.out.box (b := ab) (o := .cells #[.int .i64 dn, .int .i64 nn, uv gen, .int .i64 l, .int .i64 pa, .int .i64 de, .int .i64 se, .slice tq tn tc, vN nm, .slice bo bn bc] 39 (0, 0)) (by simp))
        go_wp2_with fail
        clear m0 m1 m2 m3 m4 m5 m6 m7 m8 m9 mf
        refine (HB5.out.doc (c := synP s nRoot) (fun y hy => rsync_any nRoot hy HB5.out.base HW.out.1)).mono ?_
        rintro e w6 ⟨rfl, hb, hl⟩
        have HB6 := hid hb
        have HE6 := hid (Ext.ofB HE5.out hl)
        clear hb hl
        obtain ⟨sC, hsC⟩ : ∃ x, (synP s nRoot).2 = x := ⟨_, rfl⟩
        have HGC : Hid (Gr s sC) := hid (by rw [← hsC]; exact gr_syn s nRoot)
        rw [hsC] at HB6
        clear hsC
        obtain ⟨⟨m0, m1, m2, m3, m4, m5, m6, m7, m8, m9⟩, mf⟩ := lk10 (HB6.out.box (b := ab) (o := .cells #[.int .i64 dn, .int .i64 nn, uv gen, .int .i64 l, .int .i64 pa, .int .i64 de, .int .i64 se, .slice tq tn tc, vN nm, .slice bo bn bc] 39 (0, 0)) (by simp))
        go_wp2_with fail
        clear m0 m1 m2 m3 m4 m5 m6 m7 m8 m9 mf
        refine (HB6.out.code (c := dsyP sC) (fun x hx => ddsync_any hx HB6.out.base (HGC.out.1 HW.out.1).dsy.gd)).mono ?_
        rintro e w7 ⟨rfl, hb, hl⟩
        have HB7 := hid hb
        have HE7 := hid (Ext.ofB HE6.out hl)
        clear hb hl
        obtain ⟨⟨m0, m1, m2, m3, m4, m5, m6, m7, m8, m9⟩, mf⟩ := lk10 (HB7.out.box (b := ab) (o := .cells #[.int .i64 dn, .int .i64 nn, uv gen, .int .i64 l, .int .i64 pa, .int .i64 de, .int .i64 se, .slice tq tn tc, vN nm, .slice bo bn bc] 39 (0, 0)) (by simp))
        go_wp2_with fail
        clear m0 m1 m2 m3 m4 m5 m6 m7 m8 m9 mf
        refine (HB7.out.doc (c := dsyP sC) (fun y hy => rdsync_any hy HB7.out.base (HGC.out.1 HW.out.1))).mono ?_
        rintro e w8 ⟨rfl, hb, hl⟩
        have HB8 := hid hb
        have HE8 := hid (Ext.ofB HE7.out hl)
        clear hb hl
        go_wp2_with fail
        go_meet
        case rel => exact ⟨((dsyP sC).1 : Nat), (dsyP sC).2, rt0, rfl, rfl, hid (aft0 HB8.out HE8.out HW.out (gr6 HGC.out (gr_dsy sC)))⟩
      case rest =>
        obtain ⟨E, s', q', rfl, rfl, HAF⟩ := hcut
        obtain ⟨g1, l1, p1, d1, s1⟩ := q'
        obtain ⟨HFB, HFE, HFF, HFO, HFL⟩ : Hid (BDE w.heap.size wc p s' r s' [(ab, .cells #[.int .i64 dn, .int .i64 nn, uv gen, .int .i64 l, .int .i64 pa, .int .i64 de, .int .i64 se, .slice tq tn tc, vN nm, .slice bo bn bc] 39 (0, 0)), (b1, .cells #[uv g1, .int .i64 l1, .int .i64 p1, .int .i64 d1, .int .i64 s1] 35 (0, 0)), (b2, .cells #[uv g1, .int .i64 l1, .int .i64 p1, .int .i64 d1, .int .i64 s1] 42 (0, 0))]) ∧ Hid (Ext w wc) ∧ Hid (WF s') ∧ Hid (s'.opn.length ≤ 6 * (k + 1)) ∧ Hid (s'.files.length ≤ 6 * (k + 1)) := ⟨hid HAF.out.b, hid HAF.out.e, hid HAF.out.f, hid HAF.out.o, hid HAF.out.l⟩
        clear HAF HB4 HE4 HW
        have HK0 := hid (HFB.out.box (b := ab) (o := .cells #[.int .i64 dn, .int .i64 nn, uv gen, .int .i64 l, .int .i64 pa, .int .i64 de, .int .i64 se, .slice tq tn tc, vN nm, .slice bo bn bc] 39 (0, 0)) (by simp))
        have HK1 := hid (HFB.out.box (b := b1) (o := .cells #[uv g1, .int .i64 l1, .int .i64 p1, .int .i64 d1, .int .i64 s1] 35 (0, 0)) (by simp))
        have HK2 := hid (HFB.out.box (b := b2) (o := .cells #[uv g1, .int .i64 l1, .int .i64 p1, .int .i64 d1, .int .i64 s1] 42 (0, 0)) (by simp))
        obtain ⟨xd, hxd⟩ := HFB.out.dk
        obtain ⟨yd, hyd⟩ := HFB.out.rd
        have HXD := hid hxd
        have HYD := hid hyd
        clear hxd hyd
        obtain ⟨RB, hRB⟩ : ∃ x, rtB ⟨gen, l, pa, de, se⟩ = x := ⟨_, rfl⟩
        have HRB := hid hRB
        obtain ⟨NM, hNM⟩ : ∃ NM, s'.dir.map Prod.fst = NM := ⟨_, rfl⟩
        obtain ⟨hh, hhe⟩ : ∃ h, held s' = h := ⟨_, rfl⟩
        obtain ⟨dw, hdw⟩ : ∃ d, s'.down = d := ⟨_, rfl⟩
        have HC1 : Hid (∀ w2, Ext wc w2 → Calls Tryz.prog 30 #[pv p] w2 fun e w3 => e = .returned (.int .i64 (hh : Int)) ∧ Ext w2 w3) := hid fun w2 hx => by rw [← hhe]; exact dheld_any (HXD.out.ext hx)
        have HC2 : Hid (∀ w2, Ext wc w2 → Calls Tryz.prog 31 #[pv r] w2 fun e w3 => e = .returned (.int .i64 (hh : Int)) ∧ w2 = w3) := hid fun w2 hx => by rw [← hhe]; exact rheld_any (HYD.out.ext hx) HFF.out (by have := HFL.out; have := HL40.out; have := HLT.out; omega) (by have := HFO.out; have := HL40.out; have := HLT.out; omega)
        have HC3 : Hid (∀ w2, Ext wc w2 → Calls Tryz.prog 32 #[pv p] w2 fun e w3 => e = .returned (.bool dw) ∧ w2 = w3) := hid fun w2 hx => by rw [← hdw]; exact ddown_any (HXD.out.ext hx)
        have HC4 : Hid (∀ w2, Ext wc w2 → Calls Tryz.prog 28 #[pv p] w2 fun e w3 => (∃ v, e = .returned v ∧ OwV vN w3 w2.heap.size 9 v NM) ∧ Ext w2 w3) := hid fun w2 hx => by rw [← hNM]; exact dNames_any (HXD.out.ext hx)
        have HC5 : Hid (∀ w2, Ext wc w2 → Calls Tryz.prog 29 #[pv r] w2 fun e w3 => (∃ v, e = .returned v ∧ OwV vN w3 w2.heap.size 9 v NM) ∧ Ext w2 w3) := hid fun w2 hx => by rw [← hNM]; exact rnames_any (HYD.out.ext hx) HFF.out.dir.le
        have C4 : Hid (wc.cell? ⟨r, 4, none⟩ = some (.bool dw)) := hid (by rw [← hdw]; exact (lk5 HYD.out.hd).1.2.2.2.2)
        clear hRB hNM hhe hdw
        go_wp2_with fail
        refine Par.wp_region_par (l := [_, _, _, _, _, _, _, _, _, _, _, _, _, _, _, _, _, _, _, _, _, _, _, _, _, _, _, _, _, _, _, _, _, _, _, _, _, _, _, _, _, _, _]) rfl Ext (Par.VL [Par.EQ (Value.int IntKind.i64 E), Par.EQ (Value.int IntKind.i64 E), Par.EQ (Value.bool false), Par.EQ (Value.bool false), Par.EQ (Value.agg #[uv g1, .int .i64 l1, .int .i64 p1, .int .i64 d1, .int .i64 s1]), Par.EQ (Value.agg #[uv g1, .int .i64 l1, .int .i64 p1, .int .i64 d1, .int .i64 s1]), Par.EQ (Value.agg #[uv g1, .int .i64 l1, .int .i64 p1, .int .i64 d1, .int .i64 s1]), Par.EQ (Value.bool false), Par.EQ (Value.bool false), Par.EQ (Value.bool false), Par.EQ (Value.pointer (some ⟨ab, 2, none⟩)), Par.EQ (Value.agg #[uv gen, .int .i64 l, .int .i64 pa, .int .i64 de, .int .i64 se]), Par.EQ (Value.bool RB), Par.EQ (Value.pointer (some ⟨ab, 2, none⟩)), Par.EQ (Value.agg #[uv gen, .int .i64 l, .int .i64 pa, .int .i64 de, .int .i64 se]), Par.EQ (Value.agg #[uv gen, .int .i64 l, .int .i64 pa, .int .i64 de, .int .i64 se]), Par.EQ (Value.bool RB), Par.EQ (Value.bool false), Par.EQ (Value.bool false), Par.EQ (Value.bool false), Par.EQ (pv p), (fun v w' => Vec vN w' v NM), Par.EQ (pv r), (fun v w' => Vec vN w' v NM), Par.EQ (Value.bool true), Par.EQ (Value.bool false), Par.EQ (Value.bool false), Par.EQ (Value.bool false), Par.EQ (pv p), Par.EQ (Value.int IntKind.i64 (hh : Int)), Par.EQ (pv r), Par.EQ (Value.int IntKind.i64 (hh : Int)), Par.EQ (Value.bool false), Par.EQ (Value.bool false), Par.EQ (Value.bool false), Par.EQ (pv p), Par.EQ (Value.bool dw), Par.EQ (pv r), Par.EQ (pv r), Par.EQ (Value.pointer (some ⟨r, 4, none⟩)), Par.EQ (Value.bool dw), Par.EQ (Value.bool false), Par.EQ (Value.bool false)]) (by kernel_rfl) Ext.refl (fun _ _ _ h1 h2 => Ext.trans h1 h2) (Ext.draw _) (Par.VL_stab ?_) ?_ ?_
        · simp only [List.forall_mem_cons, List.not_mem_nil, false_implies, implies_true, and_true]
          refine ⟨fun _ _ _ _ h => h, fun _ _ _ _ h => h, fun _ _ _ _ h => h, fun _ _ _ _ h => h, fun _ _ _ _ h => h, fun _ _ _ _ h => h, fun _ _ _ _ h => h, fun _ _ _ _ h => h, fun _ _ _ _ h => h, fun _ _ _ _ h => h, fun _ _ _ _ h => h, fun _ _ _ _ h => h, fun _ _ _ _ h => h, fun _ _ _ _ h => h, fun _ _ _ _ h => h, fun _ _ _ _ h => h, fun _ _ _ _ h => h, fun _ _ _ _ h => h, fun _ _ _ _ h => h, fun _ _ _ _ h => h, fun _ _ _ _ h => h, fun v a b k hh => hh.ext k, fun _ _ _ _ h => h, fun v a b k hh => hh.ext k, fun _ _ _ _ h => h, fun _ _ _ _ h => h, fun _ _ _ _ h => h, fun _ _ _ _ h => h, fun _ _ _ _ h => h, fun _ _ _ _ h => h, fun _ _ _ _ h => h, fun _ _ _ _ h => h, fun _ _ _ _ h => h, fun _ _ _ _ h => h, fun _ _ _ _ h => h, fun _ _ _ _ h => h, fun _ _ _ _ h => h, fun _ _ _ _ h => h, fun _ _ _ _ h => h, fun _ _ _ _ h => h, fun _ _ _ _ h => h, fun _ _ _ _ h => h, fun _ _ _ _ h => h⟩
        · refine ⟨⟨fun _ _ => trivial, fun ρ w' hX hG hk => ?_⟩, ?_⟩
          · exact Par.val_of_run rfl ⟨Ext.refl _, hk.1⟩
          refine ⟨⟨fun _ _ => trivial, fun ρ w' hX hG hk => ?_⟩, ?_⟩
          · exact Par.val_of_run rfl ⟨Ext.refl _, hk.1⟩
          refine ⟨⟨fun _ _ => trivial, fun ρ w' hX hG hk => ?_⟩, ?_⟩
          · obtain ⟨k0, k1, -⟩ := hk
            have e0 : ρ (.tmp 137) = Value.int IntKind.i64 E := k0
            have e1 : ρ (.tmp 138) = Value.int IntKind.i64 E := k1
            clear k0 k1
            refine Par.val_k fun K hK => ?_
            unfold Par.val
            (go_simp; exact hK _ _ ⟨Ext.refl _, rfl⟩)
          refine ⟨⟨fun _ _ => trivial, fun ρ w' hX hG hk => ?_⟩, ?_⟩
          · exact Par.val_of_run rfl ⟨Ext.refl _, hk.1⟩
          refine ⟨⟨fun _ _ u hu => .inl hu, fun ρ w' hX hG hk => ?_⟩, ?_⟩
          · obtain ⟨k0, -⟩ := hk
            have e0 : ρ (.tmp 13) = Value.pointer (some ⟨b1, 0, none⟩) := k0
            clear k0
            refine Par.val_k fun K hK => ?_
            unfold Par.val
            (obtain ⟨m0, m1, m2, m3, m4, mf⟩ := blk5 (hX.obj HK1.out); go_simp; exact hK _ _ ⟨Ext.refl _, rfl⟩)
          refine ⟨⟨fun _ _ u hu => .inl hu, fun ρ w' hX hG hk => ?_⟩, ?_⟩
          · obtain ⟨k0, k1, -⟩ := hk
            have e0 := k0
            have e1 : ρ (.tmp 141) = Value.agg #[uv g1, .int .i64 l1, .int .i64 p1, .int .i64 d1, .int .i64 s1] := k1
            clear k0 k1
            refine Par.val_k fun K hK => ?_
            unfold Par.val
            refine Par.val_call Tryz.func9 (by kernel_rfl) rfl e0 ?_
            simp only [List.map_toArray, List.map_cons, List.map_nil, e1]
            refine (own16_any ⟨g1, l1, p1, d1, s1⟩ _).mono ?_
            rintro e w2 ⟨rfl, hE⟩
            exact ⟨_, rfl, hK _ _ ⟨hE, rfl⟩⟩
          refine ⟨⟨fun _ _ u hu => .inl hu, fun ρ w' hX hG hk => ?_⟩, ?_⟩
          · obtain ⟨k0, -⟩ := hk
            have e0 : ρ (.tmp 14) = Value.pointer (some ⟨b2, 0, none⟩) := k0
            clear k0
            refine Par.val_k fun K hK => ?_
            unfold Par.val
            (obtain ⟨m0, m1, m2, m3, m4, mf⟩ := blk5 (hX.obj HK2.out); go_simp; exact hK _ _ ⟨Ext.refl _, rfl⟩)
          refine ⟨⟨fun _ _ u hu => .inl hu, fun ρ w' hX hG hk => ?_⟩, ?_⟩
          · obtain ⟨k0, k1, -⟩ := hk
            have e0 : ρ (.tmp 142) = Value.agg #[uv g1, .int .i64 l1, .int .i64 p1, .int .i64 d1, .int .i64 s1] := k0
            have e1 : ρ (.tmp 143) = Value.agg #[uv g1, .int .i64 l1, .int .i64 p1, .int .i64 d1, .int .i64 s1] := k1
            clear k0 k1
            refine Par.val_k fun K hK => ?_
            unfold Par.val
            (go_simp; exact hK _ _ ⟨Ext.refl _, rfl⟩)
          refine ⟨⟨fun _ _ => trivial, fun ρ w' hX hG hk => ?_⟩, ?_⟩
          · obtain ⟨k0, k1, k2, -⟩ := hk
            have e0 : ρ (.tmp 140) = Value.bool false := k0
            have e1 : ρ (Operand.const (Value.bool true)) = (Value.bool true) := k1
            have e2 : ρ (.tmp 144) = Value.bool false := k2
            clear k0 k1 k2
            refine Par.val_k fun K hK => ?_
            unfold Par.val
            (go_simp; exact hK _ _ ⟨Ext.refl _, rfl⟩)
          refine ⟨⟨fun _ _ => trivial, fun ρ w' hX hG hk => ?_⟩, ?_⟩
          · exact Par.val_of_run rfl ⟨Ext.refl _, hk.1⟩
          refine ⟨⟨fun _ _ u hu => .inl hu, fun ρ w' hX hG hk => ?_⟩, ?_⟩
          · obtain ⟨k0, -⟩ := hk
            have e0 : ρ (.tmp 10) = Value.pointer (some ⟨ab, 0, none⟩) := k0
            clear k0
            refine Par.val_k fun K hK => ?_
            unfold Par.val
            (go_simp; exact hK _ _ ⟨Ext.refl _, rfl⟩)
          refine ⟨⟨fun _ _ u hu => .inl hu, fun ρ w' hX hG hk => ?_⟩, ?_⟩
          · obtain ⟨k0, -⟩ := hk
            have e0 : ρ (.tmp 147) = Value.pointer (some ⟨ab, 2, none⟩) := k0
            clear k0
            refine Par.val_k fun K hK => ?_
            unfold Par.val
            (obtain ⟨⟨m0, m1, m2, m3, m4, m5, m6, m7, m8, m9⟩, mf⟩ := lk10 (hX.obj HK0.out); go_simp; exact hK _ _ ⟨Ext.refl _, rfl⟩)
          refine ⟨⟨fun _ _ u hu => .inl hu, fun ρ w' hX hG hk => ?_⟩, ?_⟩
          · obtain ⟨k0, k1, -⟩ := hk
            have e0 := k0
            have e1 : ρ (.tmp 148) = Value.agg #[uv gen, .int .i64 l, .int .i64 pa, .int .i64 de, .int .i64 se] := k1
            clear k0 k1
            refine Par.val_k fun K hK => ?_
            unfold Par.val
            refine Par.val_call Tryz.func25 (by kernel_rfl) rfl e0 ?_
            simp only [List.map_toArray, List.map_cons, List.map_nil, e1]
            refine (rt_any ⟨gen, l, pa, de, se⟩ _).mono ?_
            rintro e w2 ⟨rfl, hE⟩
            exact ⟨_, rfl, hK _ _ ⟨hE, (congrArg Value.bool HRB.out)⟩⟩
          refine ⟨⟨fun _ _ u hu => .inl hu, fun ρ w' hX hG hk => ?_⟩, ?_⟩
          · obtain ⟨k0, -⟩ := hk
            have e0 : ρ (.tmp 10) = Value.pointer (some ⟨ab, 0, none⟩) := k0
            clear k0
            refine Par.val_k fun K hK => ?_
            unfold Par.val
            (go_simp; exact hK _ _ ⟨Ext.refl _, rfl⟩)
          refine ⟨⟨fun _ _ u hu => .inl hu, fun ρ w' hX hG hk => ?_⟩, ?_⟩
          · obtain ⟨k0, -⟩ := hk
            have e0 : ρ (.tmp 150) = Value.pointer (some ⟨ab, 2, none⟩) := k0
            clear k0
            refine Par.val_k fun K hK => ?_
            unfold Par.val
            (obtain ⟨⟨m0, m1, m2, m3, m4, m5, m6, m7, m8, m9⟩, mf⟩ := lk10 (hX.obj HK0.out); go_simp; exact hK _ _ ⟨Ext.refl _, rfl⟩)
          refine ⟨⟨fun _ _ u hu => .inl hu, fun ρ w' hX hG hk => ?_⟩, ?_⟩
          · obtain ⟨k0, k1, -⟩ := hk
            have e0 := k0
            have e1 : ρ (.tmp 151) = Value.agg #[uv gen, .int .i64 l, .int .i64 pa, .int .i64 de, .int .i64 se] := k1
            clear k0 k1
            refine Par.val_k fun K hK => ?_
            unfold Par.val
            refine Par.val_call Tryz.func9 (by kernel_rfl) rfl e0 ?_
            simp only [List.map_toArray, List.map_cons, List.map_nil, e1]
            refine (own16_any ⟨gen, l, pa, de, se⟩ _).mono ?_
            rintro e w2 ⟨rfl, hE⟩
            exact ⟨_, rfl, hK _ _ ⟨hE, rfl⟩⟩
          refine ⟨⟨fun _ _ u hu => .inl hu, fun ρ w' hX hG hk => ?_⟩, ?_⟩
          · obtain ⟨k0, k1, -⟩ := hk
            have e0 := k0
            have e1 : ρ (.tmp 152) = Value.agg #[uv gen, .int .i64 l, .int .i64 pa, .int .i64 de, .int .i64 se] := k1
            clear k0 k1
            refine Par.val_k fun K hK => ?_
            unfold Par.val
            refine Par.val_call Tryz.func26 (by kernel_rfl) rfl e0 ?_
            simp only [List.map_toArray, List.map_cons, List.map_nil, e1]
            refine (rrt_any ⟨gen, l, pa, de, se⟩ _).mono ?_
            rintro e w2 ⟨rfl, hE⟩
            exact ⟨_, rfl, hK _ _ ⟨hE, (congrArg Value.bool HRB.out)⟩⟩
          refine ⟨⟨fun _ _ u hu => .inl hu, fun ρ w' hX hG hk => ?_⟩, ?_⟩
          · obtain ⟨k0, k1, -⟩ := hk
            have e0 : ρ (.tmp 149) = Value.bool RB := k0
            have e1 : ρ (.tmp 153) = Value.bool RB := k1
            clear k0 k1
            refine Par.val_k fun K hK => ?_
            unfold Par.val
            (go_simp; exact hK _ _ ⟨Ext.refl _, rfl⟩)
          refine ⟨⟨fun _ _ => trivial, fun ρ w' hX hG hk => ?_⟩, ?_⟩
          · obtain ⟨k0, k1, k2, -⟩ := hk
            have e0 : ρ (.tmp 146) = Value.bool false := k0
            have e1 : ρ (Operand.const (Value.bool true)) = (Value.bool true) := k1
            have e2 : ρ (.tmp 154) = Value.bool false := k2
            clear k0 k1 k2
            refine Par.val_k fun K hK => ?_
            unfold Par.val
            (go_simp; exact hK _ _ ⟨Ext.refl _, rfl⟩)
          refine ⟨⟨fun _ _ => trivial, fun ρ w' hX hG hk => ?_⟩, ?_⟩
          · exact Par.val_of_run rfl ⟨Ext.refl _, hk.1⟩
          refine ⟨⟨fun _ _ u hu => .inl hu, fun ρ w' hX hG hk => ?_⟩, ?_⟩
          · exact Par.val_of_run rfl ⟨Ext.refl _, hk.1⟩
          refine ⟨⟨fun _ _ u hu => .inl hu, fun ρ w' hX hG hk => ?_⟩, ?_⟩
          · obtain ⟨k0, k1, -⟩ := hk
            have e0 := k0
            have e1 : ρ (.tmp 157) = pv p := k1
            clear k0 k1
            refine Par.val_k fun K hK => ?_
            unfold Par.val
            refine Par.val_call Tryz.func28 (by kernel_rfl) rfl e0 ?_
            simp only [List.map_toArray, List.map_cons, List.map_nil, e1]
            refine (HC4.out _ hX).mono ?_
            rintro e w2 ⟨⟨v7, rfl, ho⟩, hE⟩
            exact ⟨_, rfl, hK _ _ ⟨hE, ho.vec⟩⟩
          refine ⟨⟨fun _ _ u hu => .inl hu, fun ρ w' hX hG hk => ?_⟩, ?_⟩
          · exact Par.val_of_run rfl ⟨Ext.refl _, hk.1⟩
          refine ⟨⟨fun _ _ u hu => .inl hu, fun ρ w' hX hG hk => ?_⟩, ?_⟩
          · obtain ⟨k0, k1, -⟩ := hk
            have e0 := k0
            have e1 : ρ (.tmp 159) = pv r := k1
            clear k0 k1
            refine Par.val_k fun K hK => ?_
            unfold Par.val
            refine Par.val_call Tryz.func29 (by kernel_rfl) rfl e0 ?_
            simp only [List.map_toArray, List.map_cons, List.map_nil, e1]
            refine (HC5.out _ hX).mono ?_
            rintro e w2 ⟨⟨v7, rfl, ho⟩, hE⟩
            exact ⟨_, rfl, hK _ _ ⟨hE, ho.vec⟩⟩
          refine ⟨⟨fun _ _ u hu => .inl hu, fun ρ w' hX hG hk => ?_⟩, ?_⟩
          · obtain ⟨k0, k1, k2, -⟩ := hk
            have e0 := k0
            have e1 : (fun v w' => Vec vN w' v NM) (ρ (.tmp 158)) w' := k1
            have e2 : (fun v w' => Vec vN w' v NM) (ρ (.tmp 160)) w' := k2
            clear k0 k1 k2
            refine Par.val_k fun K hK => ?_
            unfold Par.val
            refine Par.val_call Tryz.func27 (by kernel_rfl) rfl e0 ?_
            simp only [List.map_toArray, List.map_cons, List.map_nil]
            refine (rsames_self16 _ _ NM _ e1 e2).mono ?_
            rintro e w2 ⟨rfl, hE⟩
            exact ⟨_, rfl, hK _ _ ⟨hE, rfl⟩⟩
          refine ⟨⟨fun _ _ u hu => .inl hu, fun ρ w' hX hG hk => ?_⟩, ?_⟩
          · obtain ⟨k0, -⟩ := hk
            have e0 : ρ (.tmp 161) = Value.bool true := k0
            clear k0
            refine Par.val_k fun K hK => ?_
            unfold Par.val
            (go_simp; exact hK _ _ ⟨Ext.refl _, rfl⟩)
          refine ⟨⟨fun _ _ => trivial, fun ρ w' hX hG hk => ?_⟩, ?_⟩
          · obtain ⟨k0, k1, k2, -⟩ := hk
            have e0 : ρ (.tmp 156) = Value.bool false := k0
            have e1 : ρ (Operand.const (Value.bool true)) = (Value.bool true) := k1
            have e2 : ρ (.tmp 162) = Value.bool false := k2
            clear k0 k1 k2
            refine Par.val_k fun K hK => ?_
            unfold Par.val
            (go_simp; exact hK _ _ ⟨Ext.refl _, rfl⟩)
          refine ⟨⟨fun _ _ => trivial, fun ρ w' hX hG hk => ?_⟩, ?_⟩
          · exact Par.val_of_run rfl ⟨Ext.refl _, hk.1⟩
          refine ⟨⟨fun _ _ u hu => .inl hu, fun ρ w' hX hG hk => ?_⟩, ?_⟩
          · exact Par.val_of_run rfl ⟨Ext.refl _, hk.1⟩
          refine ⟨⟨fun _ _ u hu => .inl hu, fun ρ w' hX hG hk => ?_⟩, ?_⟩
          · obtain ⟨k0, k1, -⟩ := hk
            have e0 := k0
            have e1 : ρ (.tmp 165) = pv p := k1
            clear k0 k1
            refine Par.val_k fun K hK => ?_
            unfold Par.val
            refine Par.val_call Tryz.func30 (by kernel_rfl) rfl e0 ?_
            simp only [List.map_toArray, List.map_cons, List.map_nil, e1]
            refine (HC1.out _ hX).mono ?_
            rintro e w2 ⟨rfl, hE⟩
            exact ⟨_, rfl, hK _ _ ⟨hE, rfl⟩⟩
          refine ⟨⟨fun _ _ u hu => .inl hu, fun ρ w' hX hG hk => ?_⟩, ?_⟩
          · exact Par.val_of_run rfl ⟨Ext.refl _, hk.1⟩
          refine ⟨⟨fun _ _ u hu => .inl hu, fun ρ w' hX hG hk => ?_⟩, ?_⟩
          · obtain ⟨k0, k1, -⟩ := hk
            have e0 := k0
            have e1 : ρ (.tmp 167) = pv r := k1
            clear k0 k1
            refine Par.val_k fun K hK => ?_
            unfold Par.val
            refine Par.val_call Tryz.func31 (by kernel_rfl) rfl e0 ?_
            simp only [List.map_toArray, List.map_cons, List.map_nil, e1]
            refine (HC2.out _ hX).mono ?_
            rintro e w2 ⟨rfl, rfl⟩
            exact ⟨_, rfl, hK _ _ ⟨Ext.refl _, rfl⟩⟩
          refine ⟨⟨fun _ _ u hu => .inl hu, fun ρ w' hX hG hk => ?_⟩, ?_⟩
          · obtain ⟨k0, k1, -⟩ := hk
            have e0 : ρ (.tmp 166) = Value.int IntKind.i64 (hh : Int) := k0
            have e1 : ρ (.tmp 168) = Value.int IntKind.i64 (hh : Int) := k1
            clear k0 k1
            refine Par.val_k fun K hK => ?_
            unfold Par.val
            (go_simp; exact hK _ _ ⟨Ext.refl _, rfl⟩)
          refine ⟨⟨fun _ _ => trivial, fun ρ w' hX hG hk => ?_⟩, ?_⟩
          · obtain ⟨k0, k1, k2, -⟩ := hk
            have e0 : ρ (.tmp 164) = Value.bool false := k0
            have e1 : ρ (Operand.const (Value.bool true)) = (Value.bool true) := k1
            have e2 : ρ (.tmp 169) = Value.bool false := k2
            clear k0 k1 k2
            refine Par.val_k fun K hK => ?_
            unfold Par.val
            (go_simp; exact hK _ _ ⟨Ext.refl _, rfl⟩)
          refine ⟨⟨fun _ _ => trivial, fun ρ w' hX hG hk => ?_⟩, ?_⟩
          · exact Par.val_of_run rfl ⟨Ext.refl _, hk.1⟩
          refine ⟨⟨fun _ _ u hu => .inl hu, fun ρ w' hX hG hk => ?_⟩, ?_⟩
          · exact Par.val_of_run rfl ⟨Ext.refl _, hk.1⟩
          refine ⟨⟨fun _ _ u hu => .inl hu, fun ρ w' hX hG hk => ?_⟩, ?_⟩
          · obtain ⟨k0, k1, -⟩ := hk
            have e0 := k0
            have e1 : ρ (.tmp 172) = pv p := k1
            clear k0 k1
            refine Par.val_k fun K hK => ?_
            unfold Par.val
            refine Par.val_call Tryz.func32 (by kernel_rfl) rfl e0 ?_
            simp only [List.map_toArray, List.map_cons, List.map_nil, e1]
            refine (HC3.out _ hX).mono ?_
            rintro e w2 ⟨rfl, rfl⟩
            exact ⟨_, rfl, hK _ _ ⟨Ext.refl _, rfl⟩⟩
          refine ⟨⟨fun _ _ u hu => .inl hu, fun ρ w' hX hG hk => ?_⟩, ?_⟩
          · exact Par.val_of_run rfl ⟨Ext.refl _, hk.1⟩
          refine ⟨⟨fun _ _ u hu => .inl hu, fun ρ w' hX hG hk => ?_⟩, ?_⟩
          · obtain ⟨k0, -⟩ := hk
            have e0 : ρ (.tmp 174) = pv r := k0
            clear k0
            refine Par.val_k fun K hK => ?_
            unfold Par.val
            (go_simp; exact hK _ _ ⟨Ext.refl _, rfl⟩)
          refine ⟨⟨fun _ _ u hu => .inl hu, fun ρ w' hX hG hk => ?_⟩, ?_⟩
          · obtain ⟨k0, -⟩ := hk
            have e0 : ρ (.tmp 175) = pv r := k0
            clear k0
            refine Par.val_k fun K hK => ?_
            unfold Par.val
            (go_simp; exact hK _ _ ⟨Ext.refl _, rfl⟩)
          refine ⟨⟨fun _ _ u hu => .inl hu, fun ρ w' hX hG hk => ?_⟩, ?_⟩
          · obtain ⟨k0, -⟩ := hk
            have e0 : ρ (.tmp 176) = Value.pointer (some ⟨r, 4, none⟩) := k0
            clear k0
            refine Par.val_k fun K hK => ?_
            unfold Par.val
            (have cc := hX.cell C4.out; go_simp; exact hK _ _ ⟨Ext.refl _, rfl⟩)
          refine ⟨⟨fun _ _ u hu => .inl hu, fun ρ w' hX hG hk => ?_⟩, ?_⟩
          · obtain ⟨k0, k1, -⟩ := hk
            have e0 : ρ (.tmp 173) = Value.bool dw := k0
            have e1 : ρ (.tmp 177) = Value.bool dw := k1
            clear k0 k1
            refine Par.val_k fun K hK => ?_
            unfold Par.val
            (go_simp; exact hK _ _ ⟨Ext.refl _, rfl⟩)
          refine ⟨⟨fun _ _ => trivial, fun ρ w' hX hG hk => ?_⟩, ?_⟩
          · obtain ⟨k0, k1, k2, -⟩ := hk
            have e0 : ρ (.tmp 171) = Value.bool false := k0
            have e1 : ρ (Operand.const (Value.bool true)) = (Value.bool true) := k1
            have e2 : ρ (.tmp 178) = Value.bool false := k2
            clear k0 k1 k2
            refine Par.val_k fun K hK => ?_
            unfold Par.val
            (go_simp; exact hK _ _ ⟨Ext.refl _, rfl⟩)
          trivial
        intro a' w' inv
        have hX := inv.ext
        have q137 : a'.tmps.getD 137 undef = Value.int IntKind.i64 E := inv.done 0 _ 137 rfl rfl rfl
        have q138 : a'.tmps.getD 138 undef = Value.int IntKind.i64 E := inv.done 1 _ 138 rfl rfl rfl
        have q139 : a'.tmps.getD 139 undef = Value.bool false := inv.done 2 _ 139 rfl rfl rfl
        have q140 : a'.tmps.getD 140 undef = Value.bool false := inv.done 3 _ 140 rfl rfl rfl
        have q141 : a'.tmps.getD 141 undef = Value.agg #[uv g1, .int .i64 l1, .int .i64 p1, .int .i64 d1, .int .i64 s1] := inv.done 4 _ 141 rfl rfl rfl
        have q142 : a'.tmps.getD 142 undef = Value.agg #[uv g1, .int .i64 l1, .int .i64 p1, .int .i64 d1, .int .i64 s1] := inv.done 5 _ 142 rfl rfl rfl
        have q143 : a'.tmps.getD 143 undef = Value.agg #[uv g1, .int .i64 l1, .int .i64 p1, .int .i64 d1, .int .i64 s1] := inv.done 6 _ 143 rfl rfl rfl
        have q144 : a'.tmps.getD 144 undef = Value.bool false := inv.done 7 _ 144 rfl rfl rfl
        have q145 : a'.tmps.getD 145 undef = Value.bool false := inv.done 8 _ 145 rfl rfl rfl
        have q146 : a'.tmps.getD 146 undef = Value.bool false := inv.done 9 _ 146 rfl rfl rfl
        have q147 : a'.tmps.getD 147 undef = Value.pointer (some ⟨ab, 2, none⟩) := inv.done 10 _ 147 rfl rfl rfl
        have q148 : a'.tmps.getD 148 undef = Value.agg #[uv gen, .int .i64 l, .int .i64 pa, .int .i64 de, .int .i64 se] := inv.done 11 _ 148 rfl rfl rfl
        have q149 : a'.tmps.getD 149 undef = Value.bool RB := inv.done 12 _ 149 rfl rfl rfl
        have q150 : a'.tmps.getD 150 undef = Value.pointer (some ⟨ab, 2, none⟩) := inv.done 13 _ 150 rfl rfl rfl
        have q151 : a'.tmps.getD 151 undef = Value.agg #[uv gen, .int .i64 l, .int .i64 pa, .int .i64 de, .int .i64 se] := inv.done 14 _ 151 rfl rfl rfl
        have q152 : a'.tmps.getD 152 undef = Value.agg #[uv gen, .int .i64 l, .int .i64 pa, .int .i64 de, .int .i64 se] := inv.done 15 _ 152 rfl rfl rfl
        have q153 : a'.tmps.getD 153 undef = Value.bool RB := inv.done 16 _ 153 rfl rfl rfl
        have q154 : a'.tmps.getD 154 undef = Value.bool false := inv.done 17 _ 154 rfl rfl rfl
        have q155 : a'.tmps.getD 155 undef = Value.bool false := inv.done 18 _ 155 rfl rfl rfl
        have q156 : a'.tmps.getD 156 undef = Value.bool false := inv.done 19 _ 156 rfl rfl rfl
        have q157 : a'.tmps.getD 157 undef = pv p := inv.done 20 _ 157 rfl rfl rfl
        have q158 : (fun v w' => Vec vN w' v NM) (a'.tmps.getD 158 undef) w' := inv.done 21 _ 158 rfl rfl rfl
        have q159 : a'.tmps.getD 159 undef = pv r := inv.done 22 _ 159 rfl rfl rfl
        have q160 : (fun v w' => Vec vN w' v NM) (a'.tmps.getD 160 undef) w' := inv.done 23 _ 160 rfl rfl rfl
        have q161 : a'.tmps.getD 161 undef = Value.bool true := inv.done 24 _ 161 rfl rfl rfl
        have q162 : a'.tmps.getD 162 undef = Value.bool false := inv.done 25 _ 162 rfl rfl rfl
        have q163 : a'.tmps.getD 163 undef = Value.bool false := inv.done 26 _ 163 rfl rfl rfl
        have q164 : a'.tmps.getD 164 undef = Value.bool false := inv.done 27 _ 164 rfl rfl rfl
        have q165 : a'.tmps.getD 165 undef = pv p := inv.done 28 _ 165 rfl rfl rfl
        have q166 : a'.tmps.getD 166 undef = Value.int IntKind.i64 (hh : Int) := inv.done 29 _ 166 rfl rfl rfl
        have q167 : a'.tmps.getD 167 undef = pv r := inv.done 30 _ 167 rfl rfl rfl
        have q168 : a'.tmps.getD 168 undef = Value.int IntKind.i64 (hh : Int) := inv.done 31 _ 168 rfl rfl rfl
        have q169 : a'.tmps.getD 169 undef = Value.bool false := inv.done 32 _ 169 rfl rfl rfl
        have q170 : a'.tmps.getD 170 undef = Value.bool false := inv.done 33 _ 170 rfl rfl rfl
        have q171 : a'.tmps.getD 171 undef = Value.bool false := inv.done 34 _ 171 rfl rfl rfl
        have q172 : a'.tmps.getD 172 undef = pv p := inv.done 35 _ 172 rfl rfl rfl
        have q173 : a'.tmps.getD 173 undef = Value.bool dw := inv.done 36 _ 173 rfl rfl rfl
        have q174 : a'.tmps.getD 174 undef = pv r := inv.done 37 _ 174 rfl rfl rfl
        have q175 : a'.tmps.getD 175 undef = pv r := inv.done 38 _ 175 rfl rfl rfl
        have q176 : a'.tmps.getD 176 undef = Value.pointer (some ⟨r, 4, none⟩) := inv.done 39 _ 176 rfl rfl rfl
        have q177 : a'.tmps.getD 177 undef = Value.bool dw := inv.done 40 _ 177 rfl rfl rfl
        have q178 : a'.tmps.getD 178 undef = Value.bool false := inv.done 41 _ 178 rfl rfl rfl
        have q179 : a'.tmps.getD 179 undef = Value.bool false := inv.done 42 _ 179 rfl rfl rfl
        clear inv
        simp only [List.filterMap_cons, List.filterMap_nil, Par.putAll, Act.put, List.setIfInBounds_toArray, List.set_cons_succ, List.set_cons_zero, q137, q138, q139, q140, q141, q142, q143, q144, q145, q146, q147, q148, q149, q150, q151, q152, q153, q154, q155, q156, q157, q159, q161, q162, q163, q164, q165, q166, q167, q168, q169, q170, q171, q172, q173, q174, q175, q176, q177, q178, q179]
        clear q137 q138 q139 q140 q141 q142 q143 q144 q145 q146 q147 q148 q149 q150 q151 q152 q153 q154 q155 q156 q157 q159 q161 q162 q163 q164 q165 q166 q167 q168 q169 q170 q171 q172 q173 q174 q175 q176 q177 q178 q179
        generalize a'.tmps.getD 158 undef = u158 at *
        generalize a'.tmps.getD 160 undef = u160 at *
        clear a'
        have HX := hid hX
        clear hX
        go_wp2_with fail
        go_roundw
        case rel => exact ⟨k + 1, s', HLT.out, by go_num, hid ⟨HFF.out, HFO.out, HFL.out⟩, hid ((HFB.out.less (fun z hz => absurd hz (by simp))).ext HX.out), hid (HFE.out.trans HX.out)⟩
        case measure =>
          have := HLT.out
          simp [intOf]; omega
    · obtain rfl : k = n := by omega
      go_wp2
      go_ret
      exact ⟨rfl, HE.out⟩
end Go.Proofs.YtijpokajhjhllaaGreatDoor

set_option linter.unusedSimpArgs false
set_option linter.unusedVariables false
set_option maxRecDepth 100000
namespace Go.Proofs.YtijpokajhjhllaaGreatDoor
open Go Go.RowKit Go.Tum Go.ChangeMaps Go.WideShapes Go.ChangeShapes Go.Deep
section
variable {H : Type}
/-- What an act's datum tells of its sizes. -/
def SzA (d : DataW H) (a : Ar) : Prop := ∃ parts : List (DataW H), d = .agg parts ∧ (a.ts = [] ∨ ∃ es sp, parts[3]? = some (.slice es sp) ∧ es.length = a.ts.length) ∧
  (∃ bs, parts[4]? = some (.lit (.string bs)) ∧ bs.length = a.name.length) ∧ (a.b = [] ∨ ∃ es sp, parts[5]? = some (.slice es sp) ∧ es.length = a.b.length)
theorem wmem_all {P : Program} {e : TypeId} : ∀ {l : List (DataW H)} {x : DataW H}, x ∈ l → ∀ n ∈ x.weights P e, n ∈ DataW.weightsAll P e l
  | y :: l, x, hx, n, hn => by
    simp only [DataW.weightsAll, List.mem_append]
    rcases List.mem_cons.1 hx with rfl | h
    · exact .inl hn
    · exact .inr (wmem_all h n hn)
theorem vec_len {α : Type} {f : α → Value} {w : World} {o : Option Addr} {n c : Nat} {l : List α} (h : Vec f w (.slice o n c) l) : l.length = n := by
  obtain ⟨o', c', e, -⟩ := h.open
  simp only [Value.slice.injEq] at e
  exact e.2.1.symm
variable {enc : TypeId × Value → H} {w : World} {base : Nat} {held : Bool}
theorem open_ivsZ {v : Value} {fuel : Nat} {x : DataW H × List MemPlace} (h : DataW.trod enc Tryz.prog w base (fun _ => true) held fuel 36 [v] = some x) :
    ∃ l : List Int, Vec Go.Tum.iv w v l ∧ (∀ t ∈ l, i64 t) ∧ (l = [] ∨ ∃ es sp, x.1 = .slice es sp ∧ es.length = l.length) := by
  obtain ⟨l, h1, h2⟩ := open_ivs h
  refine ⟨l, h1, h2, ?_⟩
  rcases open_ints Tryz.underlying36 Tryz.underlying3 (by kernel_rfl) h with ⟨h0, _⟩ | ⟨a, len, cap, zs, hcs, hb, hl, hm, hz, hx, hcell, hw⟩
  · simp at h0; subst h0
    exact .inl (List.length_eq_zero_iff.1 (vec_len h1))
  · simp at hcs; subst hcs
    simp at hz
    exact .inr ⟨_, _, by rw [hx], by rw [vec_len h1]; simp [lits]; omega⟩
theorem open_bytZ {v : Value} {fuel : Nat} {x : DataW H × List MemPlace} (h : DataW.trod enc Tryz.prog w base (fun _ => true) held fuel 37 [v] = some x) :
    ∃ l : List UInt8, Byt w v l ∧ (l = [] ∨ ∃ es sp, x.1 = .slice es sp ∧ es.length = l.length) := by
  obtain ⟨l, h1⟩ := open_byt_trod Tryz.underlying37 Tryz.underlying5 (by kernel_rfl) h
  refine ⟨l, h1, ?_⟩
  rcases open_ints Tryz.underlying37 Tryz.underlying5 (by kernel_rfl) h with ⟨h0, _⟩ | ⟨a, len, cap, zs, hcs, hb, hl, hm, hz, hx, hcell, hw⟩
  · simp at h0; subst h0
    obtain ⟨o', c', e, -⟩ := h1.open
    simp only [Value.slice.injEq] at e
    exact .inl (List.length_eq_zero_iff.1 e.2.1.symm)
  · simp at hcs; subst hcs
    simp at hz
    obtain ⟨o', c', e, -⟩ := h1.open
    simp only [Value.slice.injEq] at e
    exact .inr ⟨_, _, by rw [hx], by rw [← e.2.1]; simp [lits]; omega⟩
theorem open_actsRS {v : Value} {d : DataW H} {p : List MemPlace} {r : Reach} {b0 : Nat} (hval : Value.okWide Tryz.prog w r b0 22 v) (h : DataW.Trod enc Tryz.prog w base (fun _ => true) held 22 v d p) :
    ∃ m : List ArV, ActsR w v m ∧ (m = [] ∨ ∃ (D : Nat → DataW H) (sp : List (DataW H)), d = .slice ((List.range m.length).map D) sp ∧ ∀ i (h : i < m.length), SzA (D i) m[i].1) := by
  obtain ⟨a, len, cap, rfl⟩ := okWide_slice Tryz.underlying22 hval
  obtain ⟨fuel, hf⟩ := h
  replace hf : DataW.trod enc Tryz.prog w base (fun _ => true) held fuel 22 [.slice a len cap] = some (d, p) := hf
  rcases open_slice Tryz.underlying22 hf with ⟨h0, _⟩ | ⟨a, len, cap, m, n0, D, Pl, hcs, hb, hl, hm, hmm, hx0, hi⟩
  · simp at h0
    obtain ⟨rfl, rfl, rfl⟩ := h0
    exact ⟨[], ⟨RowsOf.nil _ _ _, fun p h => absurd h (by simp)⟩, .inl rfl⟩
  · simp at hcs
    obtain ⟨rfl, rfl, rfl⟩ := hcs
    simp at hmm
    subst hmm
    have hrow : ∀ i, i < len → ∃ q : ArV, (ArOk w q ∧ SzA (D i) q.1) ∧ ∀ j u, (racells q)[j]? = some u → w.cell? (a.add (i * 10 + j)) = some u := by
      intro i hil
      obtain ⟨cs', hc, htr⟩ := hi i (by omega)
      rw [cellsActR] at hc
      obtain ⟨_, hcl, hat⟩ := World.cells?_some hc
      obtain ⟨ys, n', -, hyx, -, hyl, hfj⟩ := DataW.trod_struct Tryz.underlying39 htr
      obtain ⟨c0, c1, c2, c3, c4, c5, c6, c7, c8, c9, rfl⟩ := list10 hcl
      have hcell : ∀ j u, [c0, c1, c2, c3, c4, c5, c6, c7, c8, c9][j]? = some u → w.cell? (a.add (i * 10 + j)) = some u := by
        intro j u hu
        have hj : j < 10 := (List.getElem?_eq_some_iff.1 hu).1
        have h1 := hat j hj
        rw [Go.Deep.add_add] at h1
        rw [h1, hu]
      have t0 : DataW.trod enc Tryz.prog w base (fun _ => true) held n' 3 (([c0, c1, c2, c3, c4, c5, c6, c7, c8, c9].drop 0).take (Tryz.prog.cellsOf 3)) = ys[0]? := hfj 0 _ rfl
      have t1 : DataW.trod enc Tryz.prog w base (fun _ => true) held n' 3 (([c0, c1, c2, c3, c4, c5, c6, c7, c8, c9].drop 1).take (Tryz.prog.cellsOf 3)) = ys[1]? := hfj 1 _ rfl
      have t2 : DataW.trod enc Tryz.prog w base (fun _ => true) held n' 35 (([c0, c1, c2, c3, c4, c5, c6, c7, c8, c9].drop 2).take (Tryz.prog.cellsOf 35)) = ys[2]? := hfj 2 _ rfl
      have t3 : DataW.trod enc Tryz.prog w base (fun _ => true) held n' 36 (([c0, c1, c2, c3, c4, c5, c6, c7, c8, c9].drop 7).take (Tryz.prog.cellsOf 36)) = ys[3]? := hfj 3 _ rfl
      have t4 : DataW.trod enc Tryz.prog w base (fun _ => true) held n' 9 (([c0, c1, c2, c3, c4, c5, c6, c7, c8, c9].drop 8).take (Tryz.prog.cellsOf 9)) = ys[4]? := hfj 4 _ rfl
      have t5 : DataW.trod enc Tryz.prog w base (fun _ => true) held n' 37 (([c0, c1, c2, c3, c4, c5, c6, c7, c8, c9].drop 9).take (Tryz.prog.cellsOf 37)) = ys[5]? := hfj 5 _ rfl
      clear hfj
      have hyl : ys.length = 6 := hyl
      rw [cellsI] at t0
      rw [cellsI] at t1
      rw [cellsRoot] at t2
      rw [cellsIs] at t3
      rw [cellsSt] at t4
      rw [cellsBs] at t5
      have g0 : DataW.trod enc Tryz.prog w base (fun _ => true) held n' 3 [c0] = _ := t0.trans (List.getElem?_eq_getElem (show 0 < ys.length by omega))
      have g1 : DataW.trod enc Tryz.prog w base (fun _ => true) held n' 3 [c1] = _ := t1.trans (List.getElem?_eq_getElem (show 1 < ys.length by omega))
      have g2 : DataW.trod enc Tryz.prog w base (fun _ => true) held n' 35 [c2, c3, c4, c5, c6] = _ := t2.trans (List.getElem?_eq_getElem (show 2 < ys.length by omega))
      have g3 : DataW.trod enc Tryz.prog w base (fun _ => true) held n' 36 [c7] = _ := t3.trans (List.getElem?_eq_getElem (show 3 < ys.length by omega))
      have g4 : DataW.trod enc Tryz.prog w base (fun _ => true) held n' 9 [c8] = _ := t4.trans (List.getElem?_eq_getElem (show 4 < ys.length by omega))
      have g5 : DataW.trod enc Tryz.prog w base (fun _ => true) held n' 37 [c9] = _ := t5.trans (List.getElem?_eq_getElem (show 5 < ys.length by omega))
      clear t0 t1 t2 t3 t4 t5
      obtain ⟨z0, e0, -, w0⟩ := DataW.trod_int Tryz.underlying3 g0
      obtain ⟨z1, e1, -, w1⟩ := DataW.trod_int Tryz.underlying3 g1
      obtain ⟨rr, er⟩ := open_root5 g2
      obtain ⟨l7, h7, i7, z7⟩ := open_ivsZ g3
      obtain ⟨s8, e8, z8, hs8⟩ := DataW.trod_string Tryz.underlying9 g4
      obtain ⟨l9, h9, z9⟩ := open_bytZ g5
      simp only [List.cons.injEq, and_true] at e0 e1 er e8
      obtain ⟨er2, er3, er4, er5, er6⟩ := er
      subst e0 e1 er2 er3 er4 er5 er6 e8
      rw [nm_of s8] at hcell
      have hD : D i = .agg (ys.map (·.1)) := by have h := congrArg Prod.fst hyx; exact h
      have part : ∀ k (h : k < ys.length), (ys.map (·.1))[k]? = some (ys[k]).1 := fun k h => by rw [List.getElem?_map, List.getElem?_eq_getElem h]; rfl
      refine ⟨(⟨z0, z1, rr, l7, s8.data.toList, l9⟩, c7, c9), ⟨⟨i64_of w0, i64_of w1, h7, i7, nm_len hs8, h9⟩, ⟨_, hD, ?_, ?_, ?_⟩⟩, hcell⟩
      · rw [part 3 (by omega)]
        exact z7.imp id fun ⟨es, sp, h1, h2⟩ => ⟨es, sp, by rw [h1], h2⟩
      · rw [part 4 (by omega)]
        exact ⟨_, by rw [z8], rfl⟩
      · rw [part 5 (by omega)]
        exact z9.imp id fun ⟨es, sp, h1, h2⟩ => ⟨es, sp, by rw [h1], h2⟩
    obtain ⟨q, hq, hQ⟩ := list_of len hrow
    refine ⟨q, ⟨RowsOf.mk' hq hl hm (by decide) (fun _ _ => rfl) (fun i h j u hu => (hQ i h).2 j u hu), ?_⟩, ?_⟩
    · intro p hp
      obtain ⟨i, hil, rfl⟩ := List.mem_iff_getElem.1 hp
      exact (hQ i hil).1.1
    · refine .inr ⟨D, (List.range (m - len)).map fun j => D (len + j), ?_, fun i h => (hQ i h).1.2⟩
      have h := congrArg Prod.fst hx0
      rw [hq]
      exact h
theorem bytesI : Tryz.prog.bytesOf 3 = 8 := by kernel_rfl
theorem bytesU8 : Tryz.prog.bytesOf 5 = 1 := by kernel_rfl
theorem act_sizes {ts : List TypeId} {ds : List (DataW H)} (hz : (DataW.weightsEach Tryz.prog ts ds).all (· ≤ reachBytes) = true) {j : Nat} {d : DataW H} (ht : ts[j]? = some 22) (hd : ds[j]? = some d) {m : List ArV}
    (h : m = [] ∨ ∃ (D : Nat → DataW H) (sp : List (DataW H)), d = .slice ((List.range m.length).map D) sp ∧ ∀ i (h : i < m.length), SzA (D i) m[i].1) :
    ∀ q ∈ m, q.1.ts.length ≤ 140737488355328 ∧ q.1.name.length ≤ 140737488355328 ∧ q.1.b.length ≤ 140737488355328 := by
  intro q hq
  rcases h with rfl | ⟨D, sp, rfl, hs⟩
  · simp at hq
  obtain ⟨i, hi, rfl⟩ := List.mem_iff_getElem.1 hq
  obtain ⟨parts, hD, a, b, c⟩ := hs i hi
  have hall : ∀ n ∈ DataW.weightsEach Tryz.prog [3, 3, 35, 36, 9, 37] parts, n ≤ reachBytes := by
    intro n hn
    have h1 : n ∈ DataW.weights Tryz.prog 39 (D i) := by
      rw [hD]
      unfold DataW.weights
      rw [Tryz.underlying39]
      exact hn
    have h2 : n ∈ DataW.weights Tryz.prog 22 (.slice ((List.range m.length).map D) sp) := by
      unfold DataW.weights
      rw [Tryz.underlying22]
      exact List.mem_cons_of_mem _ (List.mem_append_left _ (wmem_all (List.mem_map.2 ⟨i, List.mem_range.2 hi, rfl⟩) n h1))
    simpa using List.all_eq_true.1 hz _ (DataW.weights_mem_each ht hd _ h2)
  have hr := reachBytes_lt
  refine ⟨?_, ?_, ?_⟩
  · rcases a with a | ⟨es, sp, h1, h2⟩
    · rw [a]; simp
    · have h3 := hall _ (DataW.weights_mem_each (j := 3) (t := 36) rfl h1 ((es.length + sp.length) * Tryz.prog.bytesOf 3) (by simp [DataW.weights, Tryz.underlying36]))
      rw [bytesI] at h3
      rw [← h2]; omega
  · obtain ⟨bs, h1, h2⟩ := b
    have h3 := hall _ (DataW.weights_mem_each (j := 4) (t := 9) rfl h1 bs.length (by simp [DataW.weights]))
    rw [← h2]; omega
  · rcases c with c | ⟨es, sp, h1, h2⟩
    · rw [c]; simp
    · have h3 := hall _ (DataW.weights_mem_each (j := 5) (t := 37) rfl h1 ((es.length + sp.length) * Tryz.prog.bytesOf 5) (by simp [DataW.weights, Tryz.underlying37]))
      rw [bytesU8] at h3
      rw [← h2]; omega
end
end Go.Proofs.YtijpokajhjhllaaGreatDoor

namespace Go.Proofs.YtijpokajhjhllaaGreatDoor.rootDoes
open Go.ChangeShapes Go.WideShapes Go.ChangeAt Go.RowKit
set_option linter.unusedVariables false
set_option maxRecDepth 100000

theorem own : ownKnob Tryz.prog.godebug = none := by kernel_rfl
theorem kid1 : laidOutB Tryz.prog = true := by kernel_rfl
theorem kid2 : mapsRowed Tryz.prog = true := by kernel_rfl
theorem kid3 : ((List.range Tryz.prog.types.size).all fun t => match Tryz.prog.underlying t with | some (.slice e) => decide (0 < Tryz.prog.cellsOf e) | _ => true) = true := by kernel_rfl
theorem kid4 : ∀ t ∈ Tryz.f3.params.toList, t < Tryz.prog.types.size := by decide +kernel
theorem gTab : Tryz.prog.globalNamed "tumbrel/record.numbers" = some 0 := by kernel_rfl
theorem gTabType : (Tryz.prog.globals[0]?).map (·.type) = some 134 := by kernel_rfl
theorem cellsT : Tryz.prog.cellsOf 134 = 18 := by kernel_rfl
theorem cellsE : Tryz.prog.cellsOf 3 = 1 := by kernel_rfl
theorem table {W : World} (h : laidMetH Tryz.prog Rows.rootDoesRow.laid W) : Tab W := by
  have ht : Lib.TabIs Tryz.prog W "tumbrel/record.numbers" .i64 tabZ :=
    Lib.tabIs_of_head (rest := []) gTab gTabType Tryz.underlying134 Tryz.underlying3 cellsE cellsT h
  intro i hi
  rw [← tabZ_at ⟨i, hi⟩]
  exact ht.cell gTab i hi

theorem contract (H : Type) (enc : TypeId × Value → H) (W : World) (base : Nat) (args : Array Value) (ds gs : List (DataW H)) (before : List MemPlace)
    (hval : ∀ (j : Nat) t v, Tryz.f3.params[j]? = some t → args[j]? = some v → Value.okWide Tryz.prog W .any base t v)
    (hW : DataW.Whole enc Tryz.prog Tryz.f3.params.toList Rows.rootDoesSpec.vars false W args.toList ds gs before) (hL : laidMetH Tryz.prog Rows.rootDoesRow.laid W)
    (hz : (DataW.weightsEach Tryz.prog (Tryz.f3.params.toList ++ (OpenSpec.ofChange Rows.rootDoesSpec).bare.plain.varTypes Tryz.prog) (ds ++ gs)).all (· ≤ reachBytes) = true) :
    Calls Tryz.prog 3 args W fun e W' => ∃ v, e = .returned v ∧ Rows.rootDoesSpec.post enc Tryz.prog Tryz.f3 false true false false W args v W' := by
  have hW' := hW
  obtain ⟨p, q, hA0, hV, rfl, hfz, hnd⟩ := hW
  have hA : DataW.TrodAll enc Tryz.prog W 0 (fun _ => true) true Tryz.f3.params.toList args.toList ds p := hA0
  rw [Tryz.params3] at hA hval
  obtain ⟨v0, vs0, d0, ds0, p0, q0, hargs, rfl, rfl, h0, r0⟩ := trodAll_cons hA
  obtain ⟨v1, vs1, d1, ds1, p1, q1, rfl, rfl, rfl, h1, r1⟩ := trodAll_cons r0
  obtain ⟨rfl, rfl, rfl⟩ := trodAll_nil r1
  obtain rfl : args = #[v0, v1] := by cases args; simp_all
  obtain ⟨rfl, rfl⟩ := trodVars_none hV
  obtain ⟨a0, rfl, rfl, rfl, w0⟩ := open_int Tryz.underlying3 (hval 0 3 v0 rfl rfl) h0
  obtain ⟨m1, hm1, hs1⟩ := open_actsRS (hval 1 22 v1 rfl rfl) h1
  refine (rootDoes_law a0 v1 m1 W hm1 (table hL) (act_sizes hz (j := 1) rfl rfl hs1)).mono fun e W' ⟨he, hg⟩ => ?_
  subst he
  exact ⟨_, rfl, Go.Tum.law_post kid1 kid2 kid3 kid4 rfl Tryz.underlying4 hW' rfl rfl hg⟩

/-- A world for the witness: the settled one, the table laid. -/
noncomputable def laidWorld (os : Os) : World :=
  { World.holding Tryz.prog os ⟨#[], #[], []⟩ with heap := (World.holding Tryz.prog os ⟨#[], #[], []⟩).heap.modify 0 fun
      | .cells _ t frozen => .cells (tabZ.map fun z => Value.int .i64 z).toArray t frozen
      | o => o }
theorem laid_met (os : Os) : laidMet Tryz.prog Rows.rootDoesRow.laid ((laidWorld os).forCall (fun _ _ => 0) ⟨#[], #[.int .i64 0, .slice none 0 0], []⟩).memory :=
  laidMet_of_run' 8 (by kernel_rfl) (by kernel_rfl)
theorem reads (os : Os) {H : Type} (enc : TypeId × Value → H) : ∃ places, DataW.whole enc Tryz.prog ((laidWorld os).forCall (fun _ _ => 0) ⟨#[], #[.int .i64 0, .slice none 0 0], []⟩).memory Tryz.f3.params.toList Rows.rootDoesSpec.vars false #[Value.int .i64 0, Value.slice none 0 0].toList 8 = some ([.lit (.int .i64 0), .nil], [], places) :=
  ⟨[], by kernel_rfl⟩

set_option maxRecDepth 100000 in
theorem lifted (os : Os) (started : os.Started) (H : Type) (enc : TypeId × Value → H) (F : Stop.Interp) :
    ReturnsInHanded {} Tryz.checked os 3 .any ((OpenSpec.ofChange Rows.rootDoesSpec).preRow enc Tryz.prog Tryz.f3 Rows.rootDoesRow.domain false Rows.rootDoesRow.laid) (((OpenSpec.ofChange Rows.rootDoesSpec).at F).post enc Tryz.prog Tryz.f3 false true false false) := by
  obtain ⟨places, hx⟩ := reads os enc
  refine returnsInHanded_of_row (C := Tryz.checked) (s := OpenSpec.ofChange Rows.rootDoesSpec) own started (by kernel_rfl) Tryz.func3
    (witness_row_at (enc := enc) (C := Tryz.checked) false (laidWorld os) #[.int .i64 0, .slice none 0 0] rfl (by kernel_rfl) (by kernel_rfl) (by kernel_rfl)
      (OpenSpec.preRow_of_cond 8 hx (by kernel_rfl) (fun k hk => by cases hk) (by kernel_rfl) (laid_met os))) ?_
  intro W base args ds gs before hval hW _ _ hz hL _ _
  exact contract H enc W base args ds gs before hval hW hL hz

theorem said : Rows.RootDoesSaid :=
  OpenClaim.holds_of_cond 3 Tryz.f3 rfl rfl rfl rfl rfl rfl rfl ⟨rfl, rfl, rfl, rfl, rfl⟩ rfl rfl rfl rfl rfl (by kernel_rfl) Tryz.func3 (by kernel_rfl)
    (of_decide_eq_true (by kernel_rfl)) (by unfold Func.isWrapper; first | (rw [if_pos (by decide +kernel)]; kernel_rfl) | (rw [if_neg (by decide +kernel)]; exact ⟨rfl, rfl⟩))
    (fun os started H enc _ F => by rw [OpenClaim.pre_eq_preRow]; exact lifted os started H enc F)

theorem plain (f : FuncId) (fn : Func) (hf : Tryz.pinned.checked.prog.funcNamed "tumbrel/tumbrellaw16.RootDoes" = some f) (hfn : Tryz.pinned.checked.prog.funcs[f]? = some fn) :
    true = Tryz.pinned.checked.prog.looks [] ∧ ∀ (j : Nat) t, fn.params[j]? = some t → Tryz.pinned.checked.prog.wantsStandIn t = false := by
  obtain rfl : f = 3 := Option.some.inj ((show Tryz.prog.funcNamed "tumbrel/tumbrellaw16.RootDoes" = some 3 by kernel_rfl).symm.trans hf) |>.symm
  obtain rfl : fn = Tryz.f3 := (Option.some.inj (Tryz.func3.symm.trans hfn)).symm
  refine ⟨by kernel_rfl, fun j t ht => ?_⟩
  rw [Tryz.params3] at ht
  have hm := Array.mem_of_getElem? ht
  have hall : ∀ t ∈ Tryz.f3.params.toList, Tryz.prog.wantsStandIn t = false := by decide +kernel
  rw [Tryz.params3] at hall
  exact hall t (by simpa using hm)

theorem proved : Rows.RootDoesCardSaid :=
  Claim7.holds_tied_plain_at .later [] _ _ _ _ said (fun _ h => by cases h) (by kernel_rfl) (fun _ h => by cases h) rootDoes_row_tie rfl ⟨rfl, rfl⟩ (by kernel_rfl) rfl plain (by kernel_rfl)
end Go.Proofs.YtijpokajhjhllaaGreatDoor.rootDoes

