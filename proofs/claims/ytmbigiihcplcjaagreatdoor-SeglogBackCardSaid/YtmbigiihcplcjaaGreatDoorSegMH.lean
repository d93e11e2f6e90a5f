/- The log's laws: what stays where.
The log's laws: that it's awake.
The log's laws: places; full, there.
The log's laws: full. -/
import Derived.Test.YtmbigiihcplcjaaGreatDoorSegMD
import Derived.Test.YtmbigiihcplcjaaGreatDoorSegMB
import Derived.Test.YtmbigiihcplcjaaGreatDoorRecGC
import Derived.Maps.AppendAt
set_option linter.unusedSimpArgs false
set_option linter.unusedVariables false
set_option maxRecDepth 100000
namespace Go.Proofs.YtmbigiihcplcjaaGreatDoor
open Go Go.RowKit Go.Tum Go.ChangeMaps Go.Tum.Crc Go.Nam

theorem blk5' {w : World} {b : Nat} {v0 v1 v2 v3 v4 : Value} {ty : TypeId} (h : w.heap[b]? = some (.cells #[v0, v1, v2, v3, v4] ty (0, 0))) :
    w.cell? ⟨b, 0, none⟩ = some v0 ∧ w.cell? ⟨b, 1, none⟩ = some v1 ∧ w.cell? ⟨b, 2, none⟩ = some v2 ∧ w.cell? ⟨b, 3, none⟩ = some v3 ∧ w.cell? ⟨b, 4, none⟩ = some v4 ∧ ∀ i, w.frozen? ⟨b, i, none⟩ = false := by
  refine ⟨by rw [cell_of_row _ _ _ _ _ _ h]; rfl, by rw [cell_of_row _ _ _ _ _ _ h]; rfl, by rw [cell_of_row _ _ _ _ _ _ h]; rfl, by rw [cell_of_row _ _ _ _ _ _ h]; rfl, by rw [cell_of_row _ _ _ _ _ _ h]; rfl, fun i => by simp [World.frozen?, h]⟩
theorem fs_nil (R a : Nat) : fsS R a [] = newP R := rfl
theorem begin_fs {R a : Nat} {seg : UInt64} {most : Int} (hm : mayB seg most = true) (ha : seg.toNat = a) : beginG (newP R) seg most = (some ⟨seg, 0, most, seg, true⟩, 0, fsS R a ([] ++ [[]])) := by
  have hs : seg.toNat < 10000000000 := by
    unfold mayB at hm
    simp only [Bool.and_eq_true, decide_eq_true_eq] at hm
    exact hm.2.2
  have hc := fs_cre R a [] (by simp; omega) (by simp)
  rw [List.length_nil, Nat.add_zero, fs_nil] at hc
  unfold beginG
  rw [hm, if_neg (by decide), ha, hc, if_neg (by simp)]
theorem begin_no {s : PS} {seg : UInt64} {most : Int} (hm : mayB seg most = false) : beginG s seg most = (none, 1, s) := by
  unfold beginG
  rw [hm, if_pos rfl]
theorem mayB_most {seg : UInt64} {most : Int} (hm : mayB seg most = true) : 64 ≤ most ∧ most ≤ 65536 := by
  unfold mayB at hm
  simp only [Bool.and_eq_true, decide_eq_true_eq] at hm
  exact ⟨hm.1, hm.2.1⟩
theorem pwB_of {w w' : World} (h : Pw w) (k : Ext w w') : PwB w.heap.size w' := fun w'' hb => Pw.ext15 h (Below.trans k hb)
theorem fs_opn (R a : Nat) (L : List (List UInt8)) : (fsS R a L).opn.length = L.length := by
  show (fsOpn a L.length).length = _
  unfold fsOpn
  simp
/-- Append, as the laws fill a log. -/
theorem sapp_fs {B : Nat} {w : World} {p b : Nat} {x : DX} {R a : Nat} {most : Int} {D : List (List UInt8)} {c : List UInt8} {g : LG} (r : Rc) (v : Value) (h : Lg B w p b x (fsS R a (D ++ [c])) g) (hg : GF g a most D c) (hv : Vec uv w v r.n) (hB : B ≤ w.heap.size) (hw : WF (fsS R a (D ++ [c]))) (hp : PwB B w) (ht : Tab w)
    (hr : rightB r = true) (ha : a ≤ 100000) (hD : D.length ≤ 51) (hs : ((D ++ [c]).map List.length).sum + (recB r).length ≤ R) (hR : R ≤ 1048576) (hm : 64 ≤ most ∧ most ≤ 65536) :
    ∃ g', GF g' a most (putF most D c (recB r)).1 (putF most D c (recB r)).2 ∧ (g.uns.toNat ≤ a → g'.uns = g.uns) ∧ (g.beg = true → g'.beg = true) ∧ WF (fsS R a ((putF most D c (recB r)).1 ++ [(putF most D c (recB r)).2])) ∧
      Calls Tryz.prog 28 #[pv b, rv r v] w fun e w' => e = .returned (.tuple #[uv g'.seg, uv (UInt64.ofNat (putA most c (recB r))), .int .i64 0]) ∧ LStp B w p b x (fsS R a ((putF most D c (recB r)).1 ++ [(putF most D c (recB r)).2])) g' w' := by
  obtain ⟨g', h1, h2, h3, h4⟩ := fs_put (R := R) hg hr ha hD hs hR
  have hcl : c.length ≤ R := by
    rw [List.map_append, List.sum_append] at hs
    simp at hs; omega
  have hc := sapp_any r v h hv hB hw (by rw [fs_opn, List.length_append, List.length_singleton]; omega) hp ht (by rw [hg.sg]; omega) (by rw [hg.at']; omega) (by rw [hg.mo]; exact hm)
  have hwf := wf_appG hw g r
  rw [h1] at hc hwf
  exact ⟨g', h2, h3, h4, hwf, hc⟩
abbrev rTick : Rc := ⟨7, [5], []⟩
theorem tick_len : (recB rTick).length = 12 := by
  show (fbytes (recFr rTick)).length = 12
  rw [fbytes_length]
  rfl
theorem tick_right : rightB rTick = true := by decide
theorem LStp.keep5 {B : Nat} {w w' : World} {p b : Nat} {x : DX} {s : PS} {g : LG} (h : LStp B w p b x s g w') : ∃ x', Lg B w' p b x' s g ∧ Below B w w' ∧ ∀ c o, w.heap[c]? = some o → c ≠ b → c ∉ x.blk p → w'.heap[c]? = some o ∧ c ∉ x'.blk p := by
  obtain ⟨x', l, f, bl, q⟩ := h
  refine ⟨x', l, bl, fun c o hc hb hn => ⟨fr_keep f hc (by simp [hb, hn]), fun hm => ?_⟩⟩
  have hl := (Array.getElem?_eq_some_iff.1 hc).1
  rcases q c hm with k | k
  · exact hn k
  · omega
set_option maxHeartbeats 4000000 in
theorem awake15_any (w : World) (ht : Tab w) (hp : Pw w) : Calls Tryz.prog 6 #[] w fun e w' => e = .returned (.bool true) ∧ Ext w w' := by
  have HT := hid ht
  have HP := hid hp
  have HC := hid (dnew_any w w.heap.size (Nat.le_refl _) 200)
  clear ht hp
  go_enter Tryz.func6, Tryz.ntmps6
  go_wp2_with fail
  refine HC.out.mono ?_
  rintro e w1 ⟨-, h⟩
  obtain ⟨p, x, rfl, d1, x1, q1⟩ := h (by decide) (by decide)
  have D1 := hid d1
  have HE1 := hid x1
  have HWN : Hid (WF (newP (Int.toNat 200))) := hid (wf_new (by decide))
  clear h d1 x1 q1 HC
  have hc := sbegin_any 1 64 D1.out HE1.out.size HWN.out (by simp [newP]) (Pw.ext15 HP.out HE1.out)
  have hwb := wf_beginG HWN.out 1 64
  rw [show Int.toNat 200 = 200 from rfl, begin_fs (R := 200) (a := 1) (by decide) rfl] at hc hwb
  have HC := hid hc
  have HWB := hid hwb
  clear hc hwb
  go_wp2_with fail
  refine HC.out.mono ?_
  rintro e w2 ⟨-, h⟩
  obtain ⟨b, x2, rfl, l2, q2, f2, b2, n2⟩ := h _ rfl
  have L2 := hid l2
  have HE2 := hid (HE1.out.below b2)
  have HN2 := hid n2
  have HB2 : Hid (w.heap.size ≤ b) := hid (Nat.le_trans HE1.out.size q2)
  clear h l2 q2 f2 b2 n2 HC D1 HE1
  obtain ⟨W3, hW3⟩ : ∃ W, w2.alloc (.cells #[.int .u64 5] 22 (0, 0)) = W := ⟨_, rfl⟩
  have hv := Vec.one w2 22 (.int .u64 5) (5 : UInt64) (f := uv) rfl
  have hE3 := Ext.alloc w2 (.cells #[.int .u64 5] 22 (0, 0))
  rw [hW3] at hv hE3
  have HV := hid hv
  have HE3 := hid (HE2.out.trans hE3)
  have L3 := hid (L2.out.ext hE3)
  obtain ⟨g', hG, hU, hBg, hWF, hc⟩ := sapp_fs (R := 200) (most := 64) (D := []) (c := []) rTick (.slice (some ⟨w2.heap.size, 0, none⟩) 1 1) L3.out ⟨rfl, rfl, rfl⟩ HV.out HE3.out.size HWB.out (pwB_of HP.out HE3.out) (HT.out.ext HE3.out) tick_right (by decide) (by decide) (by rw [tick_len]; decide) (by decide) (by decide)
  have e1 : putF 64 [] [] (recB rTick) = ([], recB rTick) := by unfold putF; rw [if_neg (by simp)]; rfl
  have e2 : putA 64 [] (recB rTick) = 0 := by unfold putA; rw [if_neg (by simp)]; rfl
  rw [e1] at hG hWF hc
  rw [e2] at hc
  have hsg : g'.seg = 1 := UInt64.toNat_inj.1 hG.sg
  have hat : g'.at' = 12 := UInt64.toNat_inj.1 (hG.at'.trans tick_len)
  rw [hsg] at hc
  have HG := hid hG
  have HSG := hid hsg
  have HAT := hid hat
  have HW4 := hid hWF
  have HU := hid (hU (by decide))
  have HBG := hid (hBg rfl)
  have HC := hid hc
  clear hG hU hBg hWF hc hv hE3 e1 e2 hsg hat L2 HE2
  go_wp2_with fail
  clear hW3
  refine HC.out.mono ?_
  rintro e w4 ⟨rfl, hs⟩
  obtain ⟨x4, l4, bl4, k4⟩ := LStp.keep5 hs
  have L4 := hid l4
  have HE4 := hid (HE3.out.below bl4)
  clear l4 bl4 k4 hs HC L3 HE3
  have hrd : readG (fsS 200 1 ([] ++ [recB rTick])) 1 0 = (rTick, 12, 0) := by
    have := PlIn.rd (a := 1) (L := [recB rTick]) (p := ⟨rTick, 1, 0⟩) ⟨tick_right, 0, by simp, rfl, [], [], by simp, rfl⟩ (by decide) (s := fsS 200 1 ([] ++ [recB rTick])) (fs_rds 200 1 [recB rTick] (by decide))
    rw [tick_len] at this
    exact this
  have hrd2 : readG (fsS 200 1 ([] ++ [recB rTick])) 1 12 = (r0, 0, 3) := by
    obtain ⟨h1, h2⟩ := fs_rd 200 1 [recB rTick] (i := 0) (by decide) (by simp)
    unfold readG
    rw [if_neg (by decide)]
    show (if rdE (fsS 200 1 [recB rTick]) (segN (1 + 0)) ≠ 0 then _ else if (rdB (fsS 200 1 [recB rTick]) (segN (1 + 0))).length ≤ _ then _ else _) = _
    rw [h1, if_neg (by simp), h2, if_pos]
    show (recB rTick).length ≤ 12
    rw [tick_len]
    exact Nat.le_refl _
  have hop : openG (fsS 200 1 ([] ++ [recB rTick])) 1 13 64 = (none, 3, fsS 200 1 ([] ++ [recB rTick])) := by
    obtain ⟨h1, h2⟩ := fs_rd 200 1 [recB rTick] (i := 0) (by decide) (by simp)
    unfold openG
    rw [show mayB 1 64 = true from by decide, if_neg (by decide)]
    show (if rdE (fsS 200 1 [recB rTick]) (segN (1 + 0)) ≠ 0 then _ else if (rdB (fsS 200 1 [recB rTick]) (segN (1 + 0))).length < _ then _ else _) = _
    rw [h1, if_neg (by simp), h2, if_pos]
    show (recB rTick).length < 13
    rw [tick_len]
    decide
  have HRD2 := hid hrd2
  have HOP := hid hop
  have hc := sread_any 1 0 L4.out (Pw.ext15 HP.out HE4.out) (HT.out.ext HE4.out)
  rw [hrd] at hc
  have HC := hid hc
  clear hrd hrd2 hop hc
  go_wp2_with fail
  refine HC.out.mono ?_
  rintro e w5 ⟨⟨u, rfl, hu⟩, hx⟩
  obtain ⟨uo, uc, rfl, -⟩ := hu.open
  have HE5 := hid (HE4.out.trans hx)
  have L5 := hid (L4.out.ext hx)
  clear hu hx HC L4 HE4
  obtain ⟨W6, hW6⟩ : ∃ W, w5.alloc (.cells #[.int .i64 7, .slice uo 1 uc, .string (str [])] 41 (0, 0)) = W := ⟨_, rfl⟩
  have hE6 := Ext.alloc w5 (.cells #[.int .i64 7, .slice uo 1 uc, .string (str [])] 41 (0, 0))
  have hb6 := heap_alloc_new w5 (.cells #[.int .i64 7, .slice uo 1 uc, .string (str [])] 41 (0, 0))
  rw [hW6] at hE6 hb6
  have HE6 := hid (HE5.out.trans hE6)
  have L6 := hid (L5.out.ext hE6)
  have HB6 := hid hb6
  have HN6 : Hid (w5.heap.size ≠ b ∧ w5.heap.size ∉ x4.blk p) := hid ⟨fun e => by have := (Array.getElem?_eq_some_iff.1 L5.out.lg).1; omega, L5.out.dk.new15⟩
  clear hE6 hb6 HE5
  have HC := hid (send_any L6.out)
  go_wp2_with fail
  try rw [hW6]
  clear hW6
  refine HC.out.mono ?_
  rintro e w7 ⟨rfl, hx⟩
  rw [HSG.out, HAT.out]
  have HE7 := hid (HE6.out.trans hx)
  have L7 := hid (L6.out.ext hx)
  have HB7 := hid (hx.obj HB6.out)
  clear hx HC L6 HE6 HB6 L5
  have hc := sread_any 1 12 L7.out (Pw.ext15 HP.out HE7.out) (HT.out.ext HE7.out)
  rw [HRD2.out] at hc
  have HC := hid hc
  clear hc
  go_wp2_with fail
  refine HC.out.mono ?_
  rintro e w8 ⟨⟨u2, rfl, hu⟩, hx⟩
  obtain ⟨vo, vc, rfl, -⟩ := hu.open
  have HE8 := hid (HE7.out.trans hx)
  have L8 := hid (L7.out.ext hx)
  have HB8 := hid (hx.obj HB7.out)
  clear hu hx HC L7 HE7 HB7
  obtain ⟨W9, hW9⟩ : ∃ W, w8.alloc (.cells #[.int .i64 0, .slice vo 0 vc, .string (str [])] 41 (0, 0)) = W := ⟨_, rfl⟩
  have hE9 := Ext.alloc w8 (.cells #[.int .i64 0, .slice vo 0 vc, .string (str [])] 41 (0, 0))
  rw [hW9] at hE9
  have HE9 := hid (HE8.out.trans hE9)
  have L9 := hid (L8.out.ext hE9)
  have HB9 := hid (hE9.obj HB8.out)
  clear hE9 HE8 HB8 L8
  have hc := sopen_any 1 13 64 L9.out.dk HE9.out.size HW4.out (Pw.ext15 HP.out HE9.out)
  rw [HOP.out] at hc
  have HC := hid hc
  clear hc
  go_wp2_with fail
  try rw [hW9]
  clear hW9
  refine HC.out.mono ?_
  rintro e w10 ⟨h, -⟩
  obtain ⟨rfl, hs⟩ := h rfl
  have hs2 := L9.out.step hs
  obtain ⟨x10, l10, bl, kp⟩ := LStp.keep5 hs2
  obtain ⟨hb, hn⟩ := kp _ _ HB9.out HN6.out.1 HN6.out.2
  have L10 := hid l10
  have HE10 := hid (HE9.out.below bl)
  have HB10 := hid hb
  clear h hs hs2 l10 bl kp hb hn HC L9 HE9 HB9
  obtain ⟨m0, m1, m2, mf⟩ := lk3 HB10.out
  have hc := ssync_any L10.out HE10.out.size HW4.out (pwB_of HP.out HE10.out) (by rw [HSG.out]; decide) (by rw [HSG.out, HU.out]; decide)
  rw [fs_sync (R := 200) HG.out (by rw [HU.out]; rfl) HBG.out (by decide)] at hc
  have HC := hid hc
  clear hc
  go_wp2_with fail
  clear m0 m1 m2 mf
  refine HC.out.mono ?_
  rintro e w11 ⟨rfl, hs⟩
  obtain ⟨x11, l11, bl, -⟩ := LStp.keep5 hs
  have HE11 := hid (HE10.out.below bl)
  clear hs l11 bl HC
  go_wp2
  go_returns
  exact ⟨rfl, HE11.out⟩
end Go.Proofs.YtmbigiihcplcjaaGreatDoor

set_option linter.unusedSimpArgs false
set_option linter.unusedVariables false
set_option maxRecDepth 100000
namespace Go.Proofs.YtmbigiihcplcjaaGreatDoor
open Go Go.RowKit Go.Tum Go.ChangeMaps Go.Tum.Crc Go.Nam

abbrev plcells (q : Plc × Value) : List Value := [.int .i64 q.1.r.kind, q.2, .string (str q.1.r.text), uv q.1.seg, uv q.1.at']
/-- A row of places. -/
def Pls (w : World) (v : Value) (m : List (Plc × Value)) : Prop := RowsOf w 5 v plcells m ∧ ∀ q ∈ m, Vec uv w q.2 q.1.r.n
def PlsO (w : World) (B : Nat) (v : Value) (m : List (Plc × Value)) : Prop := w.ownsRow B 72 5 v m.length (m.flatMap plcells) ∧ ∀ q ∈ m, Vec uv w q.2 q.1.r.n
theorem Pls.ext {w w' : World} {v : Value} {m : List (Plc × Value)} (h : Pls w v m) (k : Ext w w') : Pls w' v m := ⟨h.1.ext k, fun q hq => (h.2 q hq).ext k⟩
theorem PlsO.pls {w : World} {B : Nat} {v : Value} {m : List (Plc × Value)} (h : PlsO w B v m) : Pls w v m := ⟨⟨fun _ _ => rfl, Sl.of_owns h.1⟩, h.2⟩
theorem PlsO.ext {w w' : World} {B : Nat} {v : Value} {m : List (Plc × Value)} (h : PlsO w B v m) (k : Ext w w') : PlsO w' B v m := ⟨k.owns h.1, fun q hq => (h.2 q hq).ext k⟩
/-- What is read of a place is its record. -/
def RdOk (s : PS) (q : Plc) : Prop := rightB q.r = true ∧ readG s q.seg q.at' = (q.r, (recB q.r).length, 0)
set_option maxHeartbeats 2000000 in
theorem there_any {B : Nat} {w : World} {p b : Nat} {x : DX} {s : PS} {g : LG} (v : Value) (m : List (Plc × Value)) (h : Lg B w p b x s g) (hv : Pls w v m) (hm : ∀ q ∈ m, RdOk s q.1) (hp : Pw w) (ht : Tab w) :
    Calls Tryz.prog 23 #[pv b, v] w fun e w' => e = .returned (.bool true) ∧ Ext w w' := by
  obtain ⟨ao, cap, rfl, hle, hmx, hnn, hcell⟩ := hv.1.open
  have HC := hid hcell
  have HNN := hid hnn
  have HV := hid hv.2
  have H := hid h
  have HM := hid hm
  have HP := hid hp
  have HT := hid ht
  clear h hv hm hp ht hcell hnn
  go_enter Tryz.func23, Tryz.ntmps23
  go_wp2
  go_loopw [14] (fun i wr => ∃ k : Nat, k ≤ m.length ∧ i = .int .i64 (k : Int) ∧ Hid (Ext w wr)) (fun i _ => m.length - (intOf i).toNat)
  case atStart => exact ⟨0, Nat.zero_le _, rfl, hid (Ext.refl _)⟩
  case round =>
    obtain ⟨k, hk, rfl, HE⟩ := hrel
    by_cases hlt : k < m.length
    · have hki : decide (k < m.length) = true := by simpa using hlt
      have hkj : decide ((k : Int) < (m.length : Int)) = true := by simp; omega
      obtain ⟨a, rfl⟩ := HNN.out (by omega)
      have hc0 := HE.out.cell (HC.out a rfl k hlt 0 _ rfl)
      have hc1 := HE.out.cell (HC.out a rfl k hlt 1 _ rfl)
      have hc2 := HE.out.cell (HC.out a rfl k hlt 2 _ rfl)
      have hc3 := HE.out.cell (HC.out a rfl k hlt 3 _ rfl)
      have hc4 := HE.out.cell (HC.out a rfl k hlt 4 _ rfl)
      have hvk := HV.out m[k] (List.getElem_mem hlt)
      have hmk := HM.out m[k] (List.getElem_mem hlt)
      obtain ⟨q, hq⟩ : ∃ q, m[k] = q := ⟨_, rfl⟩
      rw [hq] at hc0 hc1 hc2 hc3 hc4 hvk hmk
      obtain ⟨⟨⟨kind, rn, text⟩, seg, at'⟩, u⟩ := q
      dsimp only [RdOk] at hc0 hc1 hc2 hc3 hc4 hvk hmk
      obtain ⟨uo, uc, rfl, -⟩ := hvk.open
      obtain ⟨un, hun⟩ : ∃ n, rn.length = n := ⟨_, rfl⟩
      rw [hun] at hc1 hvk
      have HVK := hid hvk
      have HMK := hid hmk
      have HLT := hid hlt
      have k0 := cell_first hc0
      have k1 := cell_next hc1 (by decide)
      have k2 := cell_next hc2 (by decide)
      have k3 := cell_next hc3 (by decide)
      have k4 := cell_next hc4 (by decide)
      clear hq hc0 hc1 hc2 hc3 hc4 hvk hmk hun hlt hk
      obtain ⟨W1, hW1⟩ : ∃ W, wr.alloc (.cells #[.int .i64 kind, .slice uo un uc, .string (str text), uv seg, uv at'] 72 (0, 0)) = W := ⟨_, rfl⟩
      have hE1 := Ext.alloc wr (.cells #[.int .i64 kind, .slice uo un uc, .string (str text), uv seg, uv at'] 72 (0, 0))
      have hb1 := heap_alloc_new wr (.cells #[.int .i64 kind, .slice uo un uc, .string (str text), uv seg, uv at'] 72 (0, 0))
      rw [hW1] at hE1 hb1
      have HE1 := hid (HE.out.trans hE1)
      have HB1 := hid hb1
      obtain ⟨d0, d1, d2, d3, d4, df⟩ := blk5' hb1
      clear hE1 hb1
      have hc := sread_any seg at' (H.out.ext HE1.out) (Pw.ext15 HP.out HE1.out) (HT.out.ext HE1.out)
      rw [HMK.out.2] at hc
      have HCR := hid hc
      clear hc
      go_wp2_with fail
      try rw [hW1]
      clear hW1 d0 d1 d2 d3 d4 df k0 k1 k2 k3 k4
      refine HCR.out.mono ?_
      rintro e w2 ⟨⟨u2, rfl, hu2⟩, hx⟩
      obtain ⟨vo, vc, rfl, -⟩ := hu2.open
      obtain ⟨vn, hvn⟩ : ∃ n, rn.length = n := ⟨_, rfl⟩
      dsimp only at hu2 ⊢
      rw [hvn] at hu2 ⊢
      have HU2 := hid hu2
      have HE2 := hid (HE1.out.trans hx)
      have HB2 := hid (hx.obj HB1.out)
      obtain ⟨n, hn⟩ : ∃ n, (recB (⟨kind, rn, text⟩ : Rc)).length = n := ⟨_, rfl⟩
      rw [hn]
      have HN := hid hn
      clear hu2 hvn hx hn HCR HE1 HB1
      obtain ⟨W3, hW3⟩ : ∃ W, w2.alloc (.cells #[.int .i64 kind, .slice vo vn vc, .string (str text)] 41 (0, 0)) = W := ⟨_, rfl⟩
      have hE3 := Ext.alloc w2 (.cells #[.int .i64 kind, .slice vo vn vc, .string (str text)] 41 (0, 0))
      have hb3 := heap_alloc_new w2 (.cells #[.int .i64 kind, .slice vo vn vc, .string (str text)] 41 (0, 0))
      rw [hW3] at hE3 hb3
      have HE3 := hid (HE2.out.trans hE3)
      have HB3 := hid hb3
      have HP3 := hid (hE3.obj HB2.out)
      have HU3 := hid (HU2.out.ext hE3)
      obtain ⟨d0, d1, d2, d3, d4, df⟩ := blk5' HP3.out
      clear hE3 hb3
      have hcb := bytes5_any ⟨kind, rn, text⟩ (.slice uo un uc) W3 (HVK.out.ext HE3.out) (HT.out.ext HE3.out)
      rw [recBytes_ok HMK.out.1] at hcb
      have HCB := hid hcb
      clear hcb
      go_wp2_with fail
      try rw [hW3]
      clear hW3 d0 d1 d2 d3 d4 df
      refine HCB.out.mono ?_
      rintro e w4 ⟨y, rfl, hy, hx⟩
      dsimp only at hy ⊢
      obtain ⟨yo, yc, rfl⟩ := row_shape hy
      have hN := HN.out
      rw [hN]
      have HE4 := hid (HE3.out.trans hx)
      obtain ⟨d0, d1, d2, d3, d4, df⟩ := blk5' (hx.obj HP3.out)
      obtain ⟨m0, m1, m2, mf⟩ := lk3 (hx.obj HB3.out)
      have HU4 := hid (HU3.out.ext hx)
      clear hy hx HCB hN
      have hne : ((n : Int) != (n : Int)) = false := by simp
      have hcs := same5_any ⟨kind, rn, text⟩ ⟨kind, rn, text⟩ (.slice vo vn vc) (.slice uo un uc) w4 HU4.out (HVK.out.ext HE4.out)
      rw [show recSame (⟨kind, rn, text⟩ : Rc) ⟨kind, rn, text⟩ = true from by unfold recSame; simp] at hcs
      have HCS := hid hcs
      clear hcs
      go_wp2_with fail
      clear d0 d1 d2 d3 d4 df m0 m1 m2 mf hne
      refine HCS.out.mono ?_
      rintro e w5 ⟨rfl, hx⟩
      have HE5 := hid (HE4.out.trans hx)
      clear hx HCS
      go_wp2
      go_roundw
      case rel => exact ⟨k + 1, HLT.out, by go_num, HE5⟩
      case measure => simp [intOf]; have := HLT.out; omega
    · obtain rfl : k = m.length := by omega
      have hki : decide (m.length < m.length) = false := by simp
      go_wp2
      go_returns
      exact ⟨rfl, HE.out⟩
end Go.Proofs.YtmbigiihcplcjaaGreatDoor

set_option linter.unusedSimpArgs false
set_option linter.unusedVariables false
set_option maxRecDepth 100000
namespace Go.Proofs.YtmbigiihcplcjaaGreatDoor
open Go Go.RowKit Go.Tum Go.ChangeMaps Go.Tum.Crc Go.Nam

theorem held15 {p : Prop} (h : p ∨ False) : p := h.elim id False.elim
theorem row_lt15 {w : World} {b e s n : Nat} {v : Value} {xs : List Value} (h : w.ownsRow b e s v n xs) : ∀ q ∈ oB v, q < w.heap.size := by
  intro q hm
  rcases h.2 with ⟨hv, -⟩ | ⟨g, cap, cur, hv, hb, hgg, rest⟩
  · rw [hv] at hm; simp [oB, Value.ownBlock] at hm
  · rw [hv] at hm
    simp [oB, Value.ownBlock] at hm
    subst hm
    exact (Array.getElem?_eq_some_iff.1 hgg).1
theorem row_new15 (w : World) (cs : Array Value) (e : Nat) : ∀ j u, cs.toList[j]? = some u → (w.alloc (.cells cs e (0, 0))).cell? ((⟨w.heap.size, 0, none⟩ : Addr).add j) = some u := fun j u hu => by
  have e1 : (⟨w.heap.size, 0, none⟩ : Addr).add j = ⟨w.heap.size, j, none⟩ := by unfold Addr.add; split <;> simp_all
  rw [e1, cell_of_row _ _ _ _ _ _ (heap_alloc_new w (.cells cs e (0, 0)))]
  simpa using hu
/-- 'append(s, x...)' of one's own row: where the result lies. -/
theorem wpList_append15 {P : Program} {ops : Array Oper} {rest : List Oper} {o : Oper} {a : Act} {w : World} {Q : Exit → Act → World → Prop} (hgd : o.guard = none) (s x : Operand) (t : Nat)
    (ho : o.op = .call { callee := .builtin .append, args := #[s, x], argTypes := #[t, t] }) (base e : Nat) {z : Value} {size bytes : Nat} (ht : P.underlying t = some (.slice e))
    (hi : (P.info? e).map (fun i => (i.zero, i.size, i.bytes)) = some (some z, size, bytes)) (hzs : z.cells.size = size) (hsz : 0 < size)
    {v : Value} {n : Nat} {xs : List Value} (hs : a.eval s = v) (hown : w.ownsRow base e size v n xs) {ad : Addr} {m c : Nat} {news : List Value} (hx : a.eval x = .slice (some ad) m c) (hl : news.length = m * size) (hnews : ∀ j u, news[j]? = some u → w.cell? (ad.add j) = some u)
    (h1 : ∀ y ∈ news, y.oneCell' = true) (N : Nat) (hN : N = n + m) (hb : N ≤ maxLen) (hbytes : N * bytes ≤ 140737488355328) (hbase : base ≤ w.heap.size)
    (h : ∀ ao cap w', w'.ownsRow base e size (.slice ao N cap) N (xs ++ news) → Fr (oB v) w w' → ((Value.slice ao N cap).ownBlock = v.ownBlock ∨ (Value.slice ao N cap).ownBlock = some w.heap.size) → wpList P ops Q rest (a.put o.dst (.slice ao N cap)) w') :
    wpList P ops Q (o :: rest) a w := by
  subst hN
  obtain ⟨i, hi1, hz, hsz2, hby⟩ := info_parts hi
  have hlt := @World.ownsRow.lt w base e size v n xs hown
  refine wpList_append_own_at _ hgd s x t ho base e i z size bytes ht hi1 hz hsz2 hby hzs hsz v n xs hs hown ad m c news hx hl hnews h1 hb hbytes hbase fun v' w' h2 h3 _ h5 => ?_
  obtain ⟨o', c', rfl⟩ := row_shape h2
  exact h o' c' w' h2 (fr_grown h3 ((Below.refl base w).grown h3 hbase fun k hk => (hlt k hk).1)) h5
theorem infoPlc : (Tryz.prog.info? 72).map (fun i => (i.zero, i.size, i.bytes)) = some (some (.agg #[.int .i64 0, .slice none 0 0, .string ⟨#[]⟩, .int .u64 0, .int .u64 0]), 5, 64) := by kernel_rfl
theorem plcells_one (q : Plc × Value) (h : q.2.oneCell' = true) : ∀ y ∈ plcells q, y.oneCell' = true := by
  intro y hy
  simp only [plcells, List.mem_cons, List.not_mem_nil, or_false] at hy
  rcases hy with rfl | rfl | rfl | rfl | rfl
  · rfl
  · exact h
  · rfl
  · rfl
  · rfl
/-- What full has made. -/
structure FulOk (seg : UInt64) (size : Int) (ps : List (Plc × Value)) (D : List (List UInt8)) (c : List UInt8) (g : LG) : Prop where
  gf : GF g seg.toNat size D c
  un : g.uns = seg
  bg : g.beg = true
  wf : WF (fsS 131072 seg.toNat (D ++ [c]))
  ok : PsOk seg.toNat size (ps.map Prod.fst) D c
  ln : ps.length ≤ 50
  dl : D.length ≤ ps.length
  sm : ((D ++ [c]).map List.length).sum ≤ 411 * ps.length
  my : mayB seg size = true
  sg : seg.toNat ≤ 1000
def FullR (w : World) (seg : UInt64) (size : Int) (e : Ending) (w' : World) : Prop :=
  (e = .returned (.tuple #[.pointer none, .pointer none, .slice none 0 0, .bool false]) ∧ Ext w w') ∨
  ∃ p b x g D c ps po pc, e = .returned (.tuple #[pv p, pv b, .slice po ps.length pc, .bool true]) ∧ Lg w.heap.size w' p b x (fsS 131072 seg.toNat (D ++ [c])) g ∧ FulOk seg size ps D c g ∧ PlsO w' w.heap.size (.slice po ps.length pc) ps ∧ (∀ a ∈ oB (.slice po ps.length pc), a ≠ b ∧ a ∉ x.blk p) ∧ (∀ q ∈ ps, Vec uv w q.2 q.1.r.n) ∧ Ext w w'
theorem Stp.below {B : Nat} {w w' : World} {p : Nat} {x : DX} {s : PS} (h : Stp B w p x s w') : Below B w w' := by
  obtain ⟨x', d, f, bl, q⟩ := h
  exact bl
set_option maxHeartbeats 4000000 in
theorem full_any {w : World} (seg : UInt64) (size : Int) (v : Value) (m : List (Rc × Value)) (hr : RowsOf w 3 v rcells m) (hi : ∀ q ∈ m, Vec uv w q.2 q.1.n) (hp : Pw w) (ht : Tab w) :
    Calls Tryz.prog 22 #[uv seg, .int .i64 size, v] w fun e w' => FullR w seg size e w' := by
  obtain ⟨ao, cap, rfl, hle, hmx, hnn, hcell⟩ := hr.open
  have HC := hid hcell
  have HNN := hid hnn
  have HV := hid hi
  have HP := hid hp
  have HT := hid ht
  have HCD := hid (dnew_any w w.heap.size (Nat.le_refl _) 131072)
  clear hr hi hp ht hcell hnn
  go_enter Tryz.func22, Tryz.ntmps22
  go_wp2_with fail
  refine HCD.out.mono ?_
  rintro e w1 ⟨-, h⟩
  obtain ⟨p, x, rfl, d1, x1, q1⟩ := h (by decide) (by decide)
  have D1 := hid d1
  have HE1 := hid x1
  have HWN : Hid (WF (newP (Int.toNat 131072))) := hid (wf_new (by decide))
  clear h d1 x1 q1 HCD
  by_cases hm : 50 < m.length
  · have e1 : decide ((50 : Int) < (m.length : Int)) = true := by simp; omega
    clear hm
    go_wp2
    go_returns
    exact .inl ⟨rfl, HE1.out⟩
  have e1 : decide ((50 : Int) < (m.length : Int)) = false := by simp; omega
  have HML : Hid (m.length ≤ 50) := hid (by omega)
  by_cases hsg : 1000 < seg.toNat
  · have e2 : decide ((1000 : Int) < (seg.toNat : Int)) = true := by simp; omega
    clear hm hsg
    go_wp2
    go_returns
    exact .inl ⟨rfl, HE1.out⟩
  have e2 : decide ((1000 : Int) < (seg.toNat : Int)) = false := by simp; omega
  have HSG : Hid (seg.toNat ≤ 1000) := hid (by omega)
  clear hm hsg
  have hc := sbegin_any seg size D1.out HE1.out.size HWN.out (by simp [newP]) (Pw.ext15 HP.out HE1.out)
  have hwb := wf_beginG HWN.out seg size
  cases hmy : mayB seg size with
  | false =>
    rw [begin_no hmy] at hc
    have HCB := hid hc
    clear hc hwb hmy
    go_wp2_with fail
    refine HCB.out.mono ?_
    rintro e w2 ⟨h, -⟩
    obtain ⟨rfl, hs⟩ := h rfl
    have HE2 := hid (HE1.out.below hs.below)
    clear h hs HCB e1 e2
    go_wp2
    go_returns
    exact .inl ⟨rfl, HE2.out⟩
  | true =>
  rw [show Int.toNat 131072 = 131072 from rfl, begin_fs (R := 131072) hmy rfl] at hc hwb
  have HCB := hid hc
  have HWB := hid hwb
  have HMY := hid hmy
  clear hc hwb hmy
  go_wp2_with fail
  clear e1 e2
  refine HCB.out.mono ?_
  rintro e w2 ⟨-, h⟩
  obtain ⟨b, x2, rfl, l2, q2, f2, b2, n2⟩ := h _ rfl
  have L2 := hid l2
  have HE2 := hid (HE1.out.below b2)
  clear h l2 q2 f2 b2 n2 HCB D1 HE1
  have HF0 : Hid (FulOk seg size [] [] [] ⟨seg, 0, size, seg, true⟩ ∧ ([] : List (Plc × Value)).length = 0) := hid ⟨⟨⟨rfl, rfl, rfl⟩, rfl, rfl, HWB.out, PsOk.nil _ _, by simp, by simp, by simp, HMY.out, HSG.out⟩, rfl⟩
  go_wp2
  go_loopw [14, 50] (fun ov iv wr => ∃ (k : Nat) (x : DX) (g : LG) (D : List (List UInt8)) (c : List UInt8) (ps : List (Plc × Value)) (po : Option Addr) (pc : Nat), k ≤ m.length ∧ iv = .int .i64 (k : Int) ∧ ov = .slice po k pc ∧ Hid (Lg w.heap.size wr p b x (fsS 131072 seg.toNat (D ++ [c])) g) ∧ Hid (FulOk seg size ps D c g ∧ ps.length = k) ∧ Hid (wr.ownsRow w.heap.size 72 5 (.slice po k pc) k (ps.flatMap plcells) ∧ ∀ q ∈ ps, Vec uv w q.2 q.1.r.n) ∧ Hid (∀ a ∈ oB (.slice po k pc), a ≠ b ∧ a ∉ x.blk p) ∧ Hid (Ext w wr)) (fun _ iv _ => m.length - (intOf iv).toNat)
  case atStart => exact ⟨0, x2, _, [], [], [], none, 0, Nat.zero_le _, rfl, rfl, L2, HF0, hid ⟨World.ownsRow_nil _ _ _ _, fun q hq => by simp at hq⟩, hid (fun a ha => by simp [oB, Value.ownBlock] at ha), HE2⟩
  case round =>
    clear L2 HE2 HF0 x2
    obtain ⟨k, x, g, D, c, ps, po, pc, hk, rfl, rfl, L, HF, HO, HS, HE⟩ := hrel
    by_cases hlt : k < m.length
    · have hki : decide (k < m.length) = true := by simpa using hlt
      have hkj : decide ((k : Int) < (m.length : Int)) = true := by simp; omega
      obtain ⟨a, rfl⟩ := HNN.out (by omega)
      have hc0 := HE.out.cell (HC.out a rfl k hlt 0 _ rfl)
      have hc1 := HE.out.cell (HC.out a rfl k hlt 1 _ rfl)
      have hc2 := HE.out.cell (HC.out a rfl k hlt 2 _ rfl)
      have hvk := HV.out m[k] (List.getElem_mem hlt)
      obtain ⟨q, hq⟩ : ∃ q, m[k] = q := ⟨_, rfl⟩
      rw [hq] at hc0 hc1 hc2 hvk
      obtain ⟨⟨kind, rn, text⟩, u⟩ := q
      dsimp only at hc0 hc1 hc2 hvk
      obtain ⟨uo, uc, rfl, -⟩ := hvk.open
      obtain ⟨un, hun⟩ : ∃ n, rn.length = n := ⟨_, rfl⟩
      rw [hun] at hc1 hvk
      have HVK := hid hvk
      have HLT := hid hlt
      have k0 := cell_first hc0
      have k1 := cell_next hc1 (by decide)
      have k2 := cell_next hc2 (by decide)
      clear hq hc0 hc1 hc2 hvk hun hlt hk
      obtain ⟨W1, hW1⟩ : ∃ W, wr.alloc (.cells #[.int .i64 kind, .slice uo un uc, .string (str text)] 41 (0, 0)) = W := ⟨_, rfl⟩
      have hE1 := Ext.alloc wr (.cells #[.int .i64 kind, .slice uo un uc, .string (str text)] 41 (0, 0))
      have hb1 := heap_alloc_new wr (.cells #[.int .i64 kind, .slice uo un uc, .string (str text)] 41 (0, 0))
      rw [hW1] at hE1 hb1
      have HX1 := hid hE1
      have HE1 := hid (HE.out.trans hE1)
      have HB1 := hid hb1
      obtain ⟨n1, hn1⟩ : ∃ n, wr.heap.size = n := ⟨_, rfl⟩
      have HN1 : Hid (n1 ≠ b ∧ n1 ∉ x.blk p ∧ n1 ∉ oB (.slice po k pc)) := hid ⟨fun e => by have := (Array.getElem?_eq_some_iff.1 L.out.lg).1; omega, by rw [← hn1]; exact L.out.dk.new15, fun hm => by have := row_lt15 HO.out.1 _ hm; omega⟩
      rw [hn1] at hb1 HB1
      try rw [hn1]
      obtain ⟨m0, m1, m2, mf⟩ := lk3 hb1
      have hcl := large_any ⟨kind, rn, text⟩ (.slice uo un uc) W1 (HVK.out.ext HE1.out)
      obtain ⟨lb, hlb⟩ : ∃ c, largeB (⟨kind, rn, text⟩ : Rc) = c := ⟨_, rfl⟩
      rw [hlb] at hcl
      have HCL := hid hcl
      clear hE1 hb1 hcl hlb
      go_wp2_with fail
      try rw [hn1]
      try rw [hW1]
      clear hW1 hn1 m0 m1 m2 mf
      refine HCL.out.mono ?_
      rintro e w3 ⟨rfl, hx⟩
      have HX3 := hid (HX1.out.trans hx)
      have HE3 := hid (HE1.out.trans hx)
      have HB3 := hid (hx.obj HB1.out)
      obtain ⟨m0, m1, m2, mf⟩ := lk3 HB3.out
      clear hx HCL HX1 HE1 HB1
      cases lb
      case true =>
        clear m0 m1 m2 mf hki hkj
        go_wp2
        go_returns
        exact .inl ⟨rfl, HE3.out⟩
      have hcr := right_any ⟨kind, rn, text⟩ (.slice uo un uc) w3 (HVK.out.ext HE3.out) (HT.out.ext HE3.out)
      obtain ⟨rb, hrb⟩ : ∃ c, rightB (⟨kind, rn, text⟩ : Rc) = c := ⟨_, rfl⟩
      rw [hrb] at hcr
      have HCR := hid hcr
      have HRB := hid hrb
      clear hcr hrb
      go_wp2_with fail
      clear m0 m1 m2 mf
      refine HCR.out.mono ?_
      rintro e w4 ⟨rfl, hx⟩
      have HX4 := hid (HX3.out.trans hx)
      have HE4 := hid (HE3.out.trans hx)
      have HB4 := hid (hx.obj HB3.out)
      obtain ⟨m0, m1, m2, mf⟩ := lk3 HB4.out
      clear hx HCR HX3 HE3 HB3
      cases rb
      case false =>
        clear m0 m1 m2 mf hki hkj
        go_wp2
        go_returns
        exact .inl ⟨rfl, HE4.out⟩
      have hrl := recB_len HRB.out
      have hkm : k ≤ 50 := by have := HLT.out; have := HML.out; omega
      obtain ⟨g', hG, hU, hBg, hWF, hca⟩ := sapp_fs (R := 131072) (most := size) (D := D) (c := c) ⟨kind, rn, text⟩ (.slice uo un uc) (L.out.ext HX4.out) HF.out.1.gf (HVK.out.ext HE4.out) HE4.out.size HF.out.1.wf (pwB_of HP.out HE4.out) (HT.out.ext HE4.out) HRB.out (by have := HSG.out; omega) (by have h1 := HF.out.1.dl; have h2 := HF.out.2; omega) (by have h1 := HF.out.1.sm; have h2 := HF.out.2; omega) (by decide) (mayB_most HF.out.1.my)
      have hcl : c.length ≤ 1048576 := by
        have h1 := HF.out.1.sm
        have h2 := HF.out.2
        rw [List.map_append, List.sum_append] at h1
        simp at h1
        omega
      have hpk := HF.out.1.ok.put HRB.out hG hcl
      have hsm := putF_sum size D c (recB ⟨kind, rn, text⟩)
      have hpl := putF_len size D c (recB ⟨kind, rn, text⟩)
      obtain ⟨PF, hPF⟩ : ∃ P, putF size D c (recB ⟨kind, rn, text⟩) = P := ⟨_, rfl⟩
      obtain ⟨at2, hat2⟩ : ∃ a, UInt64.ofNat (putA size c (recB ⟨kind, rn, text⟩)) = a := ⟨_, rfl⟩
      rw [hPF] at hG hWF hca hpk hsm hpl
      rw [hat2] at hca hpk
      obtain ⟨D2, c2⟩ := PF
      dsimp only at hG hWF hca hpk hsm hpl
      have HCA := hid hca
      have HFO : Hid (FulOk seg size (ps ++ [(⟨⟨kind, rn, text⟩, g'.seg, at2⟩, .slice uo un uc)]) D2 c2 g' ∧ (ps ++ [((⟨⟨kind, rn, text⟩, g'.seg, at2⟩, .slice uo un uc) : Plc × Value)]).length = k + 1) := hid (by
        have h1 := HF.out.1
        have h2 := HF.out.2
        have h3 := HLT.out
        have h4 := HML.out
        have h5 := h1.dl
        have h6 := h1.sm
        refine ⟨⟨hG, (hU (by rw [h1.un]; exact Nat.le_refl _)).trans h1.un, hBg h1.bg, hWF, by rw [List.map_append]; exact hpk, ?_, ?_, ?_, h1.my, h1.sg⟩, ?_⟩
        all_goals rw [List.length_append, List.length_singleton]
        all_goals omega)
      clear hrl hkm hG hU hBg hWF hca hcl hpk hsm hpl hPF hat2
      go_wp2_with fail
      clear m0 m1 m2 mf
      refine HCA.out.mono ?_
      rintro e w5 ⟨rfl, hs⟩
      obtain ⟨x5, l5, f5, bl5, q5⟩ := hs
      have HNK : Hid (∀ a ∈ oB (.slice po k pc), a ∉ b :: x.blk p) := hid fun a ha hm => by
        rcases List.mem_cons.1 hm with e | e
        · exact (HS.out a ha).1 e
        · exact (HS.out a ha).2 e
      have ho5 := ownsRow_fr (Ext.owns HX4.out HO.out.1) f5 HNK.out
      have HO5 := hid ho5
      have hb5 := (f5.block n1 (Array.getElem?_eq_some_iff.1 HB4.out).1 (fun hm => by
        rcases List.mem_cons.1 hm with e | e
        · exact HN1.out.1 e
        · exact HN1.out.2.1 e)).trans HB4.out
      have HS5 : Hid (∀ a ∈ oB (.slice po k pc), a ≠ b ∧ a ∉ x5.blk p) := hid fun a ha => ⟨(HS.out a ha).1, fun hm => by
        rcases q5 a hm with e | e
        · exact (HS.out a ha).2 e
        · have := row_lt15 (Ext.owns HX4.out HO.out.1) a ha; omega⟩
      have HE5 := hid (HE4.out.below bl5)
      have L5 := hid l5
      obtain ⟨m0, m1, m2, mf⟩ := lk3 hb5
      obtain ⟨N, hN⟩ : ∃ N, k + 1 = N := ⟨_, rfl⟩
      have HNE : Hid (N = k + 1) := hid hN.symm
      obtain ⟨sg5, hsg5⟩ : ∃ s, g'.seg = s := ⟨_, rfl⟩
      have HSG5 := hid hsg5
      rw [hsg5]
      clear ho5 hb5 f5 bl5 q5 l5 HCA HB4 hN hsg5 HN1 HNK
      have hNb : N ≤ 51 := by have := HNE.out; have := HLT.out; have := HML.out; omega
      have HNB := hid hNb
      clear hNb
      go_wp2_with (at_builtin; refine held15 ?_)
      refine Or.inl ?_
      refine wpList_append15 rfl (.tmp 70) (.tmp 75) 67 rfl w.heap.size 72 Tryz.underlying67 infoPlc rfl (by decide) rfl ((Ext.alloc w5 _).owns HO5.out) rfl (news := plcells (⟨⟨kind, rn, text⟩, sg5, at2⟩, .slice uo un uc)) rfl (row_new15 w5 _ _) (plcells_one _ rfl) N HNE.out (by have := HNB.out; simp [maxLen]; omega) (by have := HNB.out; omega) (by have := HE5.out.size; rw [World.size_alloc]; omega) ?_
      intro po' pc' w6 o6 f6 b6
      have f6' : Fr (oB (.slice po k pc)) w5 w6 := (Ext.fr (Ext.alloc w5 _)).trans f6
      have L6 : Hid (Lg w.heap.size w6 p b x5 (fsS 131072 seg.toNat (D2 ++ [c2])) g') := hid ⟨L5.out.dk.fr f6' (fun q hq hm => (HS5.out q hm).2 hq), (f6'.block b (Array.getElem?_eq_some_iff.1 L5.out.lg).1 (fun hm => (HS5.out b hm).1 rfl)).trans L5.out.lg, L5.out.nb, L5.out.lo⟩
      have HE6 : Hid (Ext w w6) := hid (HE5.out.below (f6'.below (row_lo HO5.out) HE5.out.size))
      have HS6 : Hid (∀ a ∈ oB (.slice po' N pc'), a ≠ b ∧ a ∉ x5.blk p) := hid fun a ha => by
        rcases oB_at b6 a ha with e | e
        · exact HS5.out a e
        · rw [World.size_alloc] at e
          refine ⟨fun e2 => by have := (Array.getElem?_eq_some_iff.1 L5.out.lg).1; omega, fun hm => by have := L5.out.dk.lt15 a hm; omega⟩
      have HO6 : Hid (w6.ownsRow w.heap.size 72 5 (.slice po' N pc') N ((ps ++ [((⟨⟨kind, rn, text⟩, g'.seg, at2⟩, .slice uo un uc) : Plc × Value)]).flatMap plcells) ∧ ∀ q ∈ ps ++ [((⟨⟨kind, rn, text⟩, g'.seg, at2⟩, .slice uo un uc) : Plc × Value)], Vec uv w q.2 q.1.r.n) := hid (by
        refine ⟨?_, fun q hq => ?_⟩
        · rw [List.flatMap_append, HSG5.out]
          simpa using o6
        · rcases List.mem_append.1 hq with hq | hq
          · exact HO.out.2 q hq
          · rw [List.mem_singleton] at hq
            subst hq
            exact HVK.out)
      clear o6 f6 b6 f6' m0 m1 m2 mf
      go_wp2
      go_roundw
      case rel => exact ⟨N, x5, g', D2, c2, _, po', pc', by have := HNE.out; have := HLT.out; omega, by have := HNE.out; rw [this]; go_num, rfl, L6, hid ⟨HFO.out.1, HFO.out.2.trans HNE.out.symm⟩, HO6, HS6, HE6⟩
      case measure => simp [intOf]; have := HLT.out; omega
    · obtain rfl : k = m.length := by omega
      have hki : decide (m.length < m.length) = false := by simp
      go_wp2
      go_returns
      have hpl := HF.out.2
      refine .inr ⟨p, b, x, g, D, c, ps, po, pc, ?_, L.out, HF.out.1, ?_, ?_, HO.out.2, HE.out⟩
      · rw [hpl]
      · rw [hpl]
        exact ⟨by rw [hpl]; exact HO.out.1, fun q hq => (HO.out.2 q hq).ext HE.out⟩
      · rw [hpl]
        exact HS.out
end Go.Proofs.YtmbigiihcplcjaaGreatDoor

set_option linter.unusedSimpArgs false
set_option linter.unusedVariables false
set_option maxRecDepth 100000
namespace Go.Proofs.YtmbigiihcplcjaaGreatDoor
open Go Go.RowKit Go.Tum Go.ChangeMaps Go.Tum.Crc Go.Nam

theorem row_step15 {w w' : World} {B T sz n : Nat} {v : Value} {xs : List Value} {S S' : List Nat} (h : w.ownsRow B T sz v n xs) (hs : ∀ a ∈ oB v, a ∉ S) (f : Fr S w w') (q : ∀ a ∈ S', a ∈ S ∨ w.heap.size ≤ a) : w'.ownsRow B T sz v n xs ∧ ∀ a ∈ oB v, a ∉ S' := by
  refine ⟨ownsRow_fr h f hs, fun a ha hm => ?_⟩
  rcases q a hm with k | k
  · exact hs a ha k
  · have := row_lt15 h a ha; omega
theorem LStp.open {B : Nat} {w w' : World} {p b : Nat} {x : DX} {s : PS} {g : LG} (h : LStp B w p b x s g w') : ∃ x', Lg B w' p b x' s g ∧ Fr (b :: x.blk p) w w' ∧ Below B w w' ∧ ∀ q ∈ b :: x'.blk p, q ∈ b :: x.blk p ∨ w.heap.size ≤ q := by
  obtain ⟨x', l, f, bl, q⟩ := h
  refine ⟨x', l, f, bl, fun c hc => ?_⟩
  rcases List.mem_cons.1 hc with rfl | hc
  · exact .inl (by simp)
  · exact (q c hc).imp (List.mem_cons_of_mem _) id
theorem Dk.low15 {B : Nat} {w : World} {p : Nat} {x : DX} {s : PS} (h : Dk B w p x s) : ∀ q ∈ x.blk p, B ≤ q := by
  intro q hq
  unfold DX.blk at hq
  simp only [List.mem_cons, List.mem_append, List.mem_flatMap, List.mem_map] at hq
  rcases hq with rfl | rfl | rfl | (hq | ⟨z, hz, rfl⟩) | ⟨z, hz, hq⟩
  · exact h.lo.1
  · exact h.lo.2.1
  · exact h.lo.2.2.1
  · exact row_lo h.op q hq
  · obtain ⟨i, hi, rfl⟩ := List.mem_iff_getElem.1 hz
    have := h.lo.2.2.2 i (by rw [← h.fn]; exact hi)
    simpa [DX.bk, List.getD_eq_getElem?_getD, hi] using this
  · obtain ⟨i, hi, rfl⟩ := List.mem_iff_getElem.1 hz
    have h2 := (h.fi i (by rw [← h.fn]; exact hi)).2
    have e : x.sv i = x.bl[i].2 := by simp [DX.sv, List.getD_eq_getElem?_getD, hi]
    rw [e] at h2
    exact row_lo h2 q hq
theorem low_of15 {w : World} {to : Option Addr} {n c : Nat} {ts : List Int} (h : Vec Go.Tum.iv w (.slice to n c) ts) : ∀ a, to = some a → ts ≠ [] → a.block < w.heap.size := by
  obtain ⟨-, ao, cap, e, -, -, -, hc⟩ := h
  simp only [Value.slice.injEq] at e
  obtain ⟨rfl, -, -⟩ := e
  rintro a rfl hne
  cases ts with
  | nil => exact absurd rfl hne
  | cons t r =>
    have := hc a rfl 0 _ rfl
    have h0 : a.add 0 = a := by simp [Addr.add]
    rw [h0] at this
    unfold World.cell? at this
    cases hg : w.heap[a.block]? with
    | none => rw [hg] at this; cases this
    | some o => exact (Array.getElem?_eq_some_iff.1 hg).1
theorem add_le64 (a b : UInt64) : (a + b).toNat ≤ a.toNat + b.toNat := by
  rw [UInt64.toNat_add]
  exact Nat.mod_le _ _
theorem room_g (s : PS) (g : LG) (n : Nat) : (roomG s g n).2.2.seg.toNat ≤ g.seg.toNat + 1 ∧ (roomG s g n).2.2.most = g.most ∧ (roomG s g n).2.2.at'.toNat ≤ g.at'.toNat := by
  have h1 : (g.seg + 1).toNat ≤ g.seg.toNat + 1 := add_le64 g.seg 1
  unfold roomG nextG
  split
  · split
    · exact ⟨by dsimp only; omega, rfl, Nat.le_refl _⟩
    · split
      · exact ⟨by dsimp only; omega, rfl, Nat.le_refl _⟩
      · exact ⟨h1, rfl, by show (0 : UInt64).toNat ≤ _; exact Nat.zero_le _⟩
  · exact ⟨by dsimp only; omega, rfl, Nat.le_refl _⟩
theorem appG_g (s : PS) (g : LG) (r : Rc) : (appG s g r).g.seg.toNat ≤ g.seg.toNat + 1 ∧ (appG s g r).g.most = g.most ∧ (appG s g r).g.at'.toNat ≤ g.at'.toNat + 411 := by
  obtain ⟨h1, h2, h3⟩ := room_g s g (recB r).length
  unfold appG
  split
  · exact ⟨by dsimp only; omega, rfl, by dsimp only; omega⟩
  · rename_i hr
    have hr' : rightB r = true := by simpa using hr
    have hl := (recB_len hr').2
    split
    · exact ⟨h1, h2, by dsimp only; omega⟩
    · unfold putG
      split
      · exact ⟨h1, h2, by dsimp only; omega⟩
      · refine ⟨h1, h2, ?_⟩
        have h4 := add_le64 (roomG s g (recB r).length).2.2.at' (UInt64.ofNat (recB r).length)
        rw [u64n hl] at h4
        dsimp only
        omega
end Go.Proofs.YtmbigiihcplcjaaGreatDoor

